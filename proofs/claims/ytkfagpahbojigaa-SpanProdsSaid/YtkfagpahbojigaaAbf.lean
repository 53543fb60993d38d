/- Proved here: what is known of the laws' about; a long sum read out of a variable under a guard. -/
import Derived.Test.YtkfagpahbojigaaWin
import Derived.Test.YtkfagpahbojigaaLab
import Derived.Test.YtkfagpahbojigaaSml4
namespace Go.Proofs.Ytkfagpahbojigaa
open Go.ChangeShapes Go.WideShapes Go.ChangeAt Go.RowKit Ieee.Own

theorem wpList_load_g {P : Program} {ops : Array Oper} {rest : List Oper} {op : Oper} {a : Act} {w : World} {Q : Exit → Act → World → Prop} (hw : Region.wanted op (yielded ops a.tmps) = true) (ty : TypeId) (x : Operand) (ho : op.op = .load ty x)
    (b o : Nat) (hx : a.eval x = .pointer (some ⟨b, o, none⟩)) (cs : List Value) (d : TypeDesc) (hc : w.rangeAt b o cs)
    (hu : P.underlying ty = some d) (hd : d.isRow = true) (hi : (P.info? ty).map (·.size) = some cs.length)
    (h : wpList P ops Q rest (a.put op.dst (.agg cs.toArray)) w) : wpList P ops Q (op :: rest) a w :=
  wpList_step fun _ hK => by rw [if_pos hw]; exact wp_load_mid ty x ho b o hx cs d hc hu hd hi (hK _ _ h)
/-- the span from the least to the greatest of three fit numbers, the second of them within -/
structure Abt (l u x : Nat) : Prop where
  ll : l < 18446744073709551616
  lu : u < 18446744073709551616
  ok : errS l u = 0
  lo : V l ≤ V x
  hi : V x ≤ V u
theorem mins_ok {x y : Nat} (h : x < 18446744073709551616) (f : fitB x = true) (k : y < 18446744073709551616 ∧ fitB y = true) : minW x y < 18446744073709551616 ∧ fitB (minW x y) = true := by
  unfold minW; split
  · exact ⟨h, f⟩
  · exact k
theorem maxs_ok {x y : Nat} (h : x < 18446744073709551616) (f : fitB x = true) (k : y < 18446744073709551616 ∧ fitB y = true) : maxW x y < 18446744073709551616 ∧ fitB (maxW x y) = true := by
  unfold maxW; split
  · exact ⟨h, f⟩
  · exact k
theorem abt_of {a b c : Nat} (ha : a < 18446744073709551616) (hb : b < 18446744073709551616) (hc : c < 18446744073709551616) (f1 : fitB a = true) (f2 : fitB b = true) (f3 : fitB c = true) : Abt (minW c (minW b a)) (maxW c (maxW b a)) b := by
  have m1 := minW_V b a
  have m2 := minW_V c (minW b a)
  have m3 := maxW_V b a
  have m4 := maxW_V c (maxW b a)
  have ok1 := mins_ok hc f3 (mins_ok hb f2 ⟨ha, f1⟩)
  have ok2 := maxs_ok hc f3 (maxs_ok hb f2 ⟨ha, f1⟩)
  refine ⟨ok1.1, ok2.1, ?_, by omega, by omega⟩
  unfold errS
  rw [if_pos ⟨ok1.2, ok2.2⟩, if_neg (by omega)]
theorem Abt.fits {l u x : Nat} (T : Abt l u x) : fitB l = true ∧ fitB u = true ∧ V l ≤ V u := errS_zero T.ok
/-- what an operation told, if it told a span: its ends are fit, below what lies above all and above what lies below all -/
theorem OpAll.told {er : Int} {cs ds : List (Int → Int)} {x y : Nat} {k : Int} (h : OpAll er cs ds (.returned (spanE x y k))) (hk : k = 0) (le : er = 0 → ∀ lo hi, DnAll cs lo → UpAll ds hi → V lo ≤ V hi) :
    (fitB x = true ∧ fitB y = true) ∧ ∃ lo hi, DnAll cs lo ∧ UpAll ds hi ∧ V x ≤ V lo ∧ V hi ≤ V y := by
  obtain ⟨-, -, z, o⟩ := h.bd
  obtain ⟨lo, hi, d, u, rfl, rfl, e⟩ := o hk (le (z hk))
  obtain ⟨f1, f2, -⟩ := errS_zero e
  exact ⟨⟨f1, f2⟩, lo, hi, d, u, lowW_le lo, highW_ge hi⟩
section
variable {sl su tl tu x y : Nat} (S : Abt sl su x) (T : Abt tl tu y)
include S T
theorem Abt.both : errSS sl su tl tu = 0 := errSS_of S.ok T.ok
theorem add_in {u v : Nat} {k : Int} (h : OpIs (errSS sl su tl tu) (fun v => V sl + V tl - v) (fun v => V su + V tu - v) (.returned (spanE u v k))) (hk : k = 0) : (fitB u = true ∧ fitB v = true) ∧ V u ≤ V x + V y ∧ V x + V y ≤ V v := by
  have a1 := S.lo
  have a2 := S.hi
  have a3 := T.lo
  have a4 := T.hi
  obtain ⟨f, lo, hi, d, up, e1, e2⟩ := h.all.told hk (fun _ lo hi d u => by
    have p := d.le _ (List.mem_singleton.2 rfl)
    have q := u.ge _ (List.mem_singleton.2 rfl)
    replace p : 0 ≤ V sl + V tl - V lo := p
    replace q : V su + V tu - V hi ≤ 0 := q
    omega)
  have p := d.le _ (List.mem_singleton.2 rfl)
  have q := up.ge _ (List.mem_singleton.2 rfl)
  replace p : 0 ≤ V sl + V tl - V lo := p
  replace q : V su + V tu - V hi ≤ 0 := q
  exact ⟨f, by omega, by omega⟩
theorem sub_in {u v : Nat} {k : Int} (h : OpIs (errSS sl su tl tu) (fun v => V sl - V tu - v) (fun v => V su - V tl - v) (.returned (spanE u v k))) (hk : k = 0) : (fitB u = true ∧ fitB v = true) ∧ V u ≤ V x - V y ∧ V x - V y ≤ V v := by
  have a1 := S.lo
  have a2 := S.hi
  have a3 := T.lo
  have a4 := T.hi
  obtain ⟨f, lo, hi, d, up, e1, e2⟩ := h.all.told hk (fun _ lo hi d u => by
    have p := d.le _ (List.mem_singleton.2 rfl)
    have q := u.ge _ (List.mem_singleton.2 rfl)
    replace p : 0 ≤ V sl - V tu - V lo := p
    replace q : V su - V tl - V hi ≤ 0 := q
    omega)
  have p := d.le _ (List.mem_singleton.2 rfl)
  have q := up.ge _ (List.mem_singleton.2 rfl)
  replace p : 0 ≤ V sl - V tu - V lo := p
  replace q : V su - V tl - V hi ≤ 0 := q
  exact ⟨f, by omega, by omega⟩
end
/-- whether a number lies within a told span: for the laws -/
def WinOk (u v : Nat) (s : Int) : Prop := (u < 18446744073709551616 ∧ v < 18446744073709551616) ∧ (fitB u = true ∧ fitB v = true) ∧ V u ≤ s ∧ s ≤ V v
theorem within_ok {u v : Nat} {s z : Int} (h : WinOk u v s) (hs : s = z * 2 ^ 50) (hz : z.natAbs ≤ 2 ^ 1510) {ws : Nat → Nat} (S : Sums ws z) (w : World) : Calls Try.prog 29 #[spanV u v, .agg (arrW ws).toArray] w fun e w' => e = .returned (.bool true) ∧ Below w.heap.size w w' :=
  within_run h.1.1 h.1.2 h.2.1.1 h.2.1.2 S hz (by rw [← hs]; exact h.2.2.1) (by rw [← hs]; exact h.2.2.2) w
theorem sum_bound {x y : Int} {k n : Nat} (hx : x.natAbs ≤ 2 ^ k) (hy : y.natAbs ≤ 2 ^ k) (hn : k + 1 ≤ n) : (x + y).natAbs ≤ 2 ^ n := by
  have l1 : 2 ^ k * 2 ≤ 2 ^ n := by rw [← Nat.pow_succ]; exact two_le hn
  generalize 2 ^ k = p at *
  generalize 2 ^ n = q at *
  omega
end Go.Proofs.Ytkfagpahbojigaa
