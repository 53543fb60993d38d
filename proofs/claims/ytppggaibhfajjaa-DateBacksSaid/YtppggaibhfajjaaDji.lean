/- Proved here: lists of whole numbers that a call owns: how they lie, one more appended; what Back tells. No program's own text. -/
import Derived.Test.YtppggaibhfajjaaDjl
import Derived.Test.YtppggaibhfajjaaDat
namespace Go.Proofs.Ytppggaibhfajjaa
open Go.ChangeShapes Go.WideShapes Go.ChangeAt Go.RowKit Go.Deep

/-- a slice that holds a list of whole numbers -/
def IAt (w : World) (ao : Option Addr) (M : List Int) : Prop := ∀ j, j < M.length → ∃ b o, ao = some ⟨b, o, none⟩ ∧ w.cell? ⟨b, o + j, none⟩ = some (.int .i64 (M.getD j 0))
theorem IAt.on {w w' : World} {ao : Option Addr} {M : List Int} (h : IAt w ao M) (hb : Below w.heap.size w w') : IAt w' ao M := by
  intro j hj
  obtain ⟨b, o, e, h1⟩ := h j hj
  exact ⟨b, o, e, (hb.cell (p := ⟨b, o + j, none⟩) (World.block_lt_of_cell? w _ h1)).trans h1⟩
theorem IAt.drew {w : World} {ao : Option Addr} {M : List Int} (h : IAt w ao M) (n : Nat) : IAt (w.drewN n) ao M := h
def iC (M : List Int) : List Value := M.map (Value.int .i64)
/-- what a call owns: a list of whole numbers; what was there is as it was -/
structure OwnI (base : Nat) (w : World) (M : List Int) (v : Value) (w' : World) : Prop where
  old : Below base w w'
  own : w'.ownsRow base 2 1 v M.length (iC M)
  size : base ≤ w'.heap.size
theorem ownsI_slice {w : World} {base n : Nat} {v : Value} {xs : List Value} (h : w.ownsRow base 2 1 v n xs) : ∃ ao m c, v = .slice ao m c := by
  rcases h.2 with ⟨rfl, _⟩ | ⟨g, cap, cur, rfl, _⟩
  · exact ⟨_, _, _, rfl⟩
  · exact ⟨_, _, _, rfl⟩
theorem ownsI_at {w : World} {base : Nat} {v : Value} {M : List Int} (h : w.ownsRow base 2 1 v M.length (iC M)) :
    ∃ ao cap, v = .slice ao M.length cap ∧ M.length ≤ cap ∧ cap ≤ maxLen ∧ IAt w ao M := by
  rcases h.2 with ⟨rfl, h0⟩ | ⟨g, cap, cur, rfl, hg, hr, hn, hcm, hsz, ht⟩
  · have hu : M = [] := List.eq_nil_of_length_eq_zero h0
    subst hu
    exact ⟨none, 0, rfl, Nat.le_refl _, by decide, by intro j hj; simp at hj⟩
  · refine ⟨_, cap, rfl, hn, hcm, fun j hj => ⟨g, 0, rfl, ?_⟩⟩
    rw [Nat.zero_add, cell_of_row w g j cur _ _ hr]
    have e : (iC M)[j]? = some (.int .i64 (M.getD j 0)) := by simp [iC, List.getD, hj]
    rw [← ht, List.getElem?_take, if_pos (by omega), Array.getElem?_toList] at e
    exact e
theorem OwnI.grow {base : Nat} {w w1 w2 : World} {M : List Int} {v : Value} (h : OwnI base w M v w1) (hb : Below w1.heap.size w1 w2) : OwnI base w M v w2 := by
  refine ⟨h.old.trans (hb.mono h.size), ⟨h.own.1, ?_⟩, Nat.le_trans h.size hb.size⟩
  rcases h.own.2 with hn | ⟨g, cap, cur, hv, hg, hr, rest⟩
  · exact .inl hn
  · exact .inr ⟨g, cap, cur, hv, hg, by rw [hb.block g (Array.getElem?_eq_some_iff.1 hr).1]; exact hr, rest⟩
theorem OwnI.nil (w : World) : OwnI w.heap.size w [] (.slice none 0 0) w := ⟨Below.refl _ _, World.ownsRow_nil _ _ _ _, Nat.le_refl _⟩
/-- one more number appended, which lies in a block of its own -/
theorem wpList_dupI {w0 w : World} {base : Nat} {ops : Array Oper} {rest : List Oper} {o : Oper} {a : Act} {Q : Exit → Act → World → Prop} (hgd : o.guard = none) (s x : Operand)
    (ho : o.op = .call { callee := .builtin .append, args := #[s, x], argTypes := #[40, 40] }) (v : Value) (M : List Int) (hs : a.eval s = v)
    (hown : OwnI base w0 M v w) (y : Int) (hx : a.eval x = .slice (some ⟨w.heap.size, 0, none⟩) 1 1) (hl : M.length ≤ 1000)
    (h : ∀ v' w', OwnI base w0 (M ++ [y]) v' w' → wpList Try.prog ops Q rest (a.put o.dst v') w') :
    wpList Try.prog ops Q (o :: rest) a (w.alloc (.cells #[.int .i64 y] 2)) := by
  obtain ⟨i0, hi0, hz0, hz1, hz2⟩ := info_of infoI
  have hb := (Below.refl w.heap.size w).alloc (Nat.le_refl _) (.cells #[.int .i64 y] 2)
  have ho2 := hown.grow hb
  refine wpList_append_own (w.alloc (.cells #[.int .i64 y] 2)) hgd s x 40 ho base 2 i0 (.int .i64 0) 1 8 Try.underlying40 hi0 hz0 hz1 hz2 rfl (by decide) v M.length _ hs ho2.own ⟨w.heap.size, 0, none⟩ 1 1 [.int .i64 y] hx rfl ?_ ?_ (by unfold maxLen; omega) (by omega) ho2.size ?_
  · intro j u hj
    have hj1 : j = 0 := by
      have := (List.getElem?_eq_some_iff.1 hj).1
      simp at this; exact this
    subst hj1
    rw [ad_plain, World.cell?_alloc_at _ _ _ _ rfl]
    exact hj
  · intro u hu
    simp only [List.mem_singleton] at hu
    subst hu; rfl
  · intro v' w' h1 h2 _
    refine h v' w' ⟨ho2.old.grown h2 ho2.size ?_, ?_, Nat.le_trans ho2.size h2.size⟩
    · intro k hk
      rcases ho2.own.2 with ⟨hv, _⟩ | ⟨g, cap, cur, hv, hg, _⟩
      · rw [hv] at hk; simp [Value.ownBlock] at hk
      · rw [hv] at hk
        simp only [Value.ownBlock, Option.some.injEq] at hk
        rw [← hk]; exact hg
    · rw [List.length_append, show iC (M ++ [y]) = iC M ++ [.int .i64 y] by simp [iC]]
      exact h1
/-- the error of Back -/
def bakE (L : List (Int × Int)) (c : Int) : Int := if chkJ L = 0 then (if -2251799813685248 ≤ c ∧ c ≤ 2251799813685248 then 0 else 80) else chkJ L
def bakM (L : List (Int × Int)) (c : Int) : List Int := if bakE L c = 0 then bak L c else []
theorem bakE_bad {L : List (Int × Int)} (c : Int) (h : chkJ L ≠ 0) : bakE L c = chkJ L ∧ bakM L c = [] := by
  have e : bakE L c = chkJ L := if_neg h
  exact ⟨e, if_neg (by rw [e]; exact h)⟩
theorem bakE_out {L : List (Int × Int)} {c : Int} (h : chkJ L = 0) (hc : ¬ (-2251799813685248 ≤ c ∧ c ≤ 2251799813685248)) : bakE L c = 80 ∧ bakM L c = [] := by
  have e : bakE L c = 80 := by unfold bakE; rw [if_pos h, if_neg hc]
  exact ⟨e, if_neg (by rw [e]; decide)⟩
theorem bakE_in {L : List (Int × Int)} {c : Int} (h : chkJ L = 0) (hc : -2251799813685248 ≤ c ∧ c ≤ 2251799813685248) : bakE L c = 0 ∧ bakM L c = bak L c := by
  have e : bakE L c = 0 := by unfold bakE; rw [if_pos h, if_pos hc]
  exact ⟨e, if_pos e⟩
/-- what a call of Back leaves: a list of its own and an error -/
def BackRes (w : World) (M : List Int) (k : Int) (e : Ending) (w' : World) : Prop := ∃ v, e = .returned (.tuple #[v, .int .i64 k]) ∧ OwnI w.heap.size w M v w'
theorem backRes_none {w w' : World} {k : Int} {e : Ending} (he : e = .returned (.tuple #[.slice none 0 0, .int .i64 k])) (hb : Below w.heap.size w w') : BackRes w [] k e w' :=
  ⟨_, he, (OwnI.nil w).grow hb⟩
end Go.Proofs.Ytppggaibhfajjaa
