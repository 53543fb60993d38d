/- Proved here: a list copied into a new row, as a law of the walk; what the reference's Sum answers, over the translated code. -/
import Derived.Test.YthgpdgajmpocfaaTro
namespace Go.Proofs.Ythgpdgajmpocfaa
open Go.ChangeShapes Go.WideShapes Go.ChangeAt Go.RowKit Ieee.Own

/-- three results: two numbers and an error's number -/
def ffi (a b : Nat) (c : Int) : Value := .tuple #[.float .f64 a, .float .f64 b, .int .i64 c]

/-- a sum's results -/
structure SumRes (a b s e : Nat) : Prop where
  op : Ieee.double.add a b = some s
  fs : FinW s
  fe : FinW e
  vs : V s = RN (V a + V b)
  ve : V e = V a + V b - V s

theorem rfit2 (a b : Nat) (ha : a < 18446744073709551616) (hb : b < 18446744073709551616) (w : World) :
    Calls Try.prog 48 #[.float .f64 a, .float .f64 b] w fun e w' => e = .returned (.bool (fitB a && fitB b)) ∧ w = w' := by
  have C1 := fun w => rfit_any a ha w
  have C2 := fun w => rfit_any b hb w
  clear ha hb
  cases h1 : fitB a <;> cases h2 : fitB b
  all_goals
    rw [h1] at C1
    rw [h2] at C2
    clear h1 h2
    go_enter Try.func48, Try.ntmps48
    go_wp2_with (first | (go_at_call 31; ((with_reducible refine (C1 _).mono ?_); rintro e w' ⟨rfl, rfl⟩)) | (go_at_call 31; ((with_reducible refine (C2 _).mono ?_); rintro e w' ⟨rfl, rfl⟩)))
    go_ret
    exact ⟨rfl, rfl⟩
theorem rfit2_f (a b : Nat) (ha : a < 18446744073709551616) (hb : b < 18446744073709551616) (h : fitB a = false ∨ fitB b = false) (w : World) :
    Calls Try.prog 48 #[.float .f64 a, .float .f64 b] w fun e w' => e = .returned (.bool false) ∧ w = w' :=
  (rfit2 a b ha hb w).mono fun _ _ ⟨he, hw⟩ => ⟨by rw [he]; rcases h with h | h <;> rw [h] <;> simp, hw⟩
theorem rfit2_t (a b : Nat) (ha : a < 18446744073709551616) (hb : b < 18446744073709551616) (h1 : fitB a = true) (h2 : fitB b = true) (w : World) :
    Calls Try.prog 48 #[.float .f64 a, .float .f64 b] w fun e w' => e = .returned (.bool true) ∧ w = w' :=
  (rfit2 a b ha hb w).mono fun _ _ ⟨he, hw⟩ => ⟨by rw [he, h1, h2]; rfl, hw⟩

theorem rsum_unfit (a b : Nat) (ha : a < 18446744073709551616) (hb : b < 18446744073709551616) (h : fitB a = false ∨ fitB b = false) (w : World) :
    Calls Try.prog 30 #[.float .f64 a, .float .f64 b] w fun e w' => e = .returned (ffi 0 0 3) ∧ w = w' := by
  have C1 := fun w => rfit2_f a b ha hb h w
  clear ha hb h
  go_enter Try.func30, Try.ntmps30
  go_wp2_with ((go_at_call 48; ((with_reducible refine (C1 _).mono ?_); rintro e w' ⟨rfl, rfl⟩)))
  go_ret3
  exact ⟨rfl, rfl⟩

theorem rsum_fit (a b : Nat) (ha : a < 18446744073709551616) (hb : b < 18446744073709551616) (h1 : fitB a = true) (h2 : fitB b = true) :
    ∃ s e, SumRes a b s e ∧ ((2 : Int) ^ 500 ∣ V s ∧ (2 : Int) ^ 500 ∣ V e ∧ ∃ K, K ≤ 1490 ∧ (V s).natAbs ≤ 2 ^ K ∧ (V e).natAbs ≤ 2 ^ K) ∧ ∀ w, Calls Try.prog 30 #[.float .f64 a, .float .f64 b] w fun en w' => en = .returned (ffi s e 0) ∧ w = w' := by
  obtain ⟨s, c, t1, t2, t3, e, o1, o2, o3, o4, o5, o6, f1, f2, v1, v2⟩ := two_sum_words (k := 1275) (fit_fin ha h1) (fit_fin hb h2) (fit_abs (k := 1275) ha h1 (Nat.le_refl _)) (fit_abs (k := 1275) hb h2 (Nat.le_refl _)) (by omega)
  obtain ⟨z1, z2, z3, z4⟩ := sum_facts (k := 1275) v1 v2 (fit_dvd ha h1) (fit_dvd hb h2) (fit_abs (k := 1275) ha h1 (Nat.le_refl _)) (fit_abs (k := 1275) hb h2 (Nat.le_refl _))
  refine ⟨s, e, ⟨o1, f1, f2, v1, v2⟩, ⟨z1, z2, _, by decide, z3, z4⟩, fun w => ?_⟩
  clear z1 z2 z3 z4
  have C1 := fun w => rfit2_t a b ha hb h1 h2 w
  have r1 := run_add _ _ _ o1
  have r2 := run_sub _ _ _ o2
  have r3 := run_sub _ _ _ o3
  have r4 := run_sub _ _ _ o4
  have r5 := run_sub _ _ _ o5
  have r6 := run_add _ _ _ o6
  clear o1 o2 o3 o4 o5 o6 f1 f2 v1 v2 ha hb h1 h2
  have R : ∀ w, Calls Try.prog 49 #[.float .f64 a, .float .f64 b] w fun en w' => en = .returned (.tuple #[.float .f64 s, .float .f64 e]) ∧ w = w' := by
    intro w
    go_enter Try.func49, Try.ntmps49
    go_wp2
    go_ret2
    exact ⟨rfl, rfl⟩
  clear r1 r2 r3 r4 r5 r6
  go_enter Try.func30, Try.ntmps30
  go_wp2_with (first | (go_at_call 48; ((with_reducible refine (C1 _).mono ?_); rintro e w' ⟨rfl, rfl⟩)) | (go_at_call 49; ((with_reducible refine (R _).mono ?_); rintro e w' ⟨rfl, rfl⟩)))
  go_ret3
  exact ⟨rfl, rfl⟩


/-- what a copy is: the list lies there, in blocks of the call's own; below them nothing has turned -/
structure Copied (w w' : World) (ao : Option Addr) (n cap : Nat) (L : List Nat) : Prop where
  room : n ≤ cap
  bare : ao = none → cap = 0
  at_ : At w' ao L
  base : ∀ b o, ao = some ⟨b, o, none⟩ → w.heap.size ≤ b ∧ b < w'.heap.size
  old : Below w.heap.size w w'
  own : w'.ownsRow w.heap.size 25 1 (.slice ao n cap) L.length (L.map (Value.float .f64))

theorem wpList_copy {w : World} {ops : Array Oper} {rest : List Oper} {o : Oper} {a : Act} {Q : Exit → Act → World → Prop} (hgd : o.guard = none) (s x : Operand)
    (ho : o.op = .call { callee := .builtin .append, args := #[s, x], argTypes := #[22, 22] }) (hs : a.eval s = .slice (some ⟨w.heap.size, 0, none⟩) 0 0)
    (ao : Option Addr) (n cap : Nat) (L : List Nat) (hx : a.eval x = .slice ao n cap) (hn : n = L.length) (hnone : ao = none → cap = 0) (ha : At w ao L) (hr : n * 8 ≤ 140737488351232)
    (h : ∀ ao' cap' w', Copied w w' ao' n cap' L → wpList Try.prog ops Q rest (a.put o.dst (.slice ao' n cap')) w') :
    wpList Try.prog ops Q (o :: rest) a (w.alloc (.cells #[] 25)) := by
  have B1 := (Below.refl w.heap.size w).alloc (Nat.le_refl _) (.cells #[] 25)
  refine wpList_dup hgd s x _ ho Try.underlying22 w.heap.size _ [] hs (owns_empty w) ao n cap L hx hn hnone (ha.alloc _) (by simp; omega) (by simp) ?_
  intro v' w' ho' hg'
  rw [List.nil_append] at ho'
  have B2 : Below w.heap.size w w' := B1.grown hg' (by simp) (by intro k hk; simp [Value.ownBlock] at hk; omega)
  obtain ⟨ao', cap', rfl, h1, h2, h3, h4, h5⟩ := owns_at ho'
  rw [← hn] at h1 ho' ⊢
  exact h ao' cap' w' ⟨h1, h4, h3, h5, B2, by rw [hn] at ho' ⊢; exact ho'⟩

/-- two numbers behind a copy -/
theorem twoAt (a b : Nat) (w : World) : At (w.alloc (.cells #[.float .f64 a, .float .f64 b] 25)) (some ⟨w.heap.size, 0, none⟩) [a, b] := by
  intro i hi
  refine ⟨w.heap.size, 0, rfl, ?_⟩
  rw [World.cell?_alloc_at _ _ _ _ rfl]
  have : i = 0 ∨ i = 1 := by simp at hi; omega
  rcases this with rfl | rfl <;> rfl
theorem wpList_two {w0 w : World} {ops : Array Oper} {rest : List Oper} {o : Oper} {a : Act} {Q : Exit → Act → World → Prop} (hgd : o.guard = none) (s x : Operand)
    (ho : o.op = .call { callee := .builtin .append, args := #[s, x], argTypes := #[22, 22] })
    (ao : Option Addr) (n cap : Nat) (L : List Nat) (p q : Nat) (hs : a.eval s = .slice ao n cap) (hx : a.eval x = .slice (some ⟨w.heap.size, 0, none⟩) 2 2) (hn : n = L.length) (C : Copied w0 w ao n cap L) (hr : n * 8 ≤ 140737488351232)
    (h : ∀ ao' cap' w', At w' ao' (L ++ [p, q]) → Below w0.heap.size w0 w' → wpList Try.prog ops Q rest (a.put o.dst (.slice ao' (n + 2) cap')) w') :
    wpList Try.prog ops Q (o :: rest) a (w.alloc (.cells #[.float .f64 p, .float .f64 q] 25)) := by
  have hs' := C.old.size
  have B3 := C.old.alloc hs' (.cells #[.float .f64 p, .float .f64 q] 25)
  have hlt := C.own.lt
  refine wpList_dup hgd s x _ ho Try.underlying22 w0.heap.size _ L hs (C.own.alloc _) (some ⟨w.heap.size, 0, none⟩) 2 2 [p, q] hx rfl (by intro h; cases h) (twoAt p q w) (by simp; omega) (by simp; omega) ?_
  intro v' w' ho' hg'
  have B4 : Below w0.heap.size w0 w' := B3.grown hg' (by simp; omega) (by intro k hk; exact (hlt k hk).1)
  obtain ⟨ao', cap', rfl, h1, h2, h3, h4, h5⟩ := owns_at ho'
  have hlen : (L ++ [p, q]).length = n + 2 := by rw [List.length_append, hn]; rfl
  rw [hlen]
  exact h ao' cap' w' h3 B4
end Go.Proofs.Ythgpdgajmpocfaa
