/- Proved here: what the reference's long sum does to its words when a number is put to it. -/
import Derived.Test.YtkfagpahbojigaaRows
import Derived.Test.YtkfagpahbojigaaAccm
import Derived.WalkKit
import Derived.WalkLawsBesides
import Derived.ProofKit
import Derived.OpenShut
import Derived.Laws.Externs
import Derived.Lib.Hide
import Derived.IntWalk
import Derived.Laws.BitsAllLaws
import Derived.Shelf.Spec.BitsCarry
import Derived.Deep.RegionLaw
namespace Go.Proofs.Ytkfagpahbojigaa
open Go.ChangeShapes Go.WideShapes Go.ChangeAt Go.RowKit Ieee.Own

theorem xadd (x y c : Nat) (hc : c ≤ 1) (w : World) : (callFunc 83 #[.int .u64 x, .int .u64 y, .int .u64 c]).run Try.prog w =
      .ok (.value (.tuple #[.int .u64 (((x + y + c) % 18446744073709551616 : Nat) : Int), .int .u64 (((x + y + c) / 18446744073709551616 : Nat) : Int)])) w := by
  rw [run_callFunc_extern Try.func83 (by kernel_rfl) (by kernel_rfl) (by kernel_rfl) (e := add64Entry) (by kernel_rfl), run_add64 x y c (by omega) (by omega) (by omega) (by omega)]
  simp only [Result.andThen]
  congr 5 <;> omega
theorem xsub (x y b : Nat) (hb : b ≤ 1) (w : World) : (callFunc 82 #[.int .u64 x, .int .u64 y, .int .u64 b]).run Try.prog w =
      .ok (.value (.tuple #[.int .u64 (((x + 18446744073709551616 - y - b) % 18446744073709551616 : Nat) : Int), .int .u64 ((if x < y + b then 1 else 0 : Nat) : Int)])) w := by
  rw [run_callFunc_extern Try.func82 (by kernel_rfl) (by kernel_rfl) (by kernel_rfl) (e := sub64Entry) (by kernel_rfl), run_sub64 x y b hb]
  rfl

theorem xsub' (x y b : Nat) (hb : b ≤ 1) (w : World) : (callFunc 82 #[.int .u64 x, .int .u64 y, .int .u64 b]).run Try.prog w =
      .ok (.value (.tuple #[.int .u64 (stepS true x y b : Nat), .int .u64 (stepC true x y b : Nat)])) w := by
  rw [xsub x y b hb w]; unfold stepS stepC; rw [if_pos rfl, if_pos rfl]
theorem xadd' (x y b : Nat) (hb : b ≤ 1) (w : World) : (callFunc 83 #[.int .u64 x, .int .u64 y, .int .u64 b]).run Try.prog w =
      .ok (.value (.tuple #[.int .u64 (stepS false x y b : Nat), .int .u64 (stepC false x y b : Nat)])) w := by
  rw [xadd x y b hb w]; unfold stepS stepC; rw [if_neg (by decide), if_neg (by decide)]
theorem xsub0 (x b : Nat) (hb : b ≤ 1) (w : World) : (callFunc 82 #[.int .u64 x, .int .u64 0, .int .u64 b]).run Try.prog w =
      .ok (.value (.tuple #[.int .u64 (stepS true x 0 b : Nat), .int .u64 (stepC true x 0 b : Nat)])) w := xsub' x 0 b hb w
theorem xadd0 (x b : Nat) (hb : b ≤ 1) (w : World) : (callFunc 83 #[.int .u64 x, .int .u64 0, .int .u64 b]).run Try.prog w =
      .ok (.value (.tuple #[.int .u64 (stepS false x 0 b : Nat), .int .u64 (stepC false x 0 b : Nat)])) w := xadd' x 0 b hb w
/-- below block b the world is as it was, no mark has turned, and of the blocks that were there b alone may have turned -/
def Still (b : Nat) (w w' : World) : Prop := Below b w w' ∧ (∀ a, w'.frozen? a = w.frozen? a) ∧ ∀ g, g < w.heap.size → g ≠ b → w'.heap[g]? = w.heap[g]?
theorem Still.refl (b : Nat) (w : World) : Still b w w := ⟨Below.refl b w, fun _ => rfl, fun _ _ _ => rfl⟩
theorem Still.trans {b : Nat} {u v w : World} (h : Still b u v) (k : Still b v w) : Still b u w := ⟨h.1.trans k.1, fun a => (k.2.1 a).trans (h.2.1 a), fun g hg hb => (k.2.2 g (Nat.lt_of_lt_of_le hg h.1.size) hb).trans (h.2.2 g hg hb)⟩
theorem Still.setCell {b : Nat} {u w : World} (h : Still b u w) {p : Addr} (hp : p.block = b) (v : Value) : Still b u (w.setCell p v) :=
  ⟨h.1.setCell (Nat.le_of_eq hp.symm) v, fun a => (World.frozen?_setCell _ _ _ _).trans (h.2.1 a), fun g hg hb => (Below.heap_setCell _ _ _ _ (by omega)).trans (h.2.2 g hg hb)⟩
theorem Still.drew {b : Nat} {u w : World} (h : Still b u w) : Still b u w.drew := ⟨h.1.drew, h.2.1, h.2.2⟩
theorem Still.alloc {b : Nat} {u w : World} (h : Still b u w) (hb : b ≤ w.heap.size) (c : Array Value) (t : TypeId) : Still b u (w.alloc (.cells c t)) :=
  ⟨h.1.alloc hb _, fun a => (frozen?_alloc_cells _ _ _ a).trans (h.2.1 a), fun g hg hb => (heap_alloc_old w _ (Nat.lt_of_lt_of_le hg h.1.size)).trans (h.2.2 g hg hb)⟩
theorem Still.grown {w w' : World} (h : Still w.heap.size w w') : Grown w w' := ⟨h.1.frame _, h.2.1, h.1.size⟩

structure Rel (b B j : Nat) (w wr : World) (ws ns : Nat → Nat) (p0 p1 : Nat) : Prop where
  old : Still b w wr
  size : B < wr.heap.size
  done : ∀ t, t < j → wr.cell? ⟨b, t, none⟩ = some (.int .u64 (ns t))
  todo : ∀ t, j ≤ t → t < 24 → wr.cell? ⟨b, t, none⟩ = some (.int .u64 (ws t))
  free : ∀ t, t < 24 → wr.frozen? ⟨b, t, none⟩ = false
  c0 : wr.cell? ⟨B, 0, none⟩ = some (.int .u64 p0)
  c1 : wr.cell? ⟨B, 1, none⟩ = some (.int .u64 p1)

theorem Rel.step {b B j : Nat} {w wr : World} {ws ns : Nat → Nat} {p0 p1 : Nat} (R : Rel b B j w wr ws ns p0 p1) (hb : b < B) (hj : j < 24) :
    Rel b B (j + 1) w (wr.setCell ⟨b, j, none⟩ (.int .u64 (ns j))).drew ws ns p0 p1 := by
  have ne : ∀ t, t ≠ j → (⟨b, j, none⟩ : Addr) ≠ ⟨b, t, none⟩ := by intro t h e; cases e; exact h rfl
  have nB : ∀ t, (⟨b, j, none⟩ : Addr) ≠ ⟨B, t, none⟩ := by intro t e; cases e; omega
  refine ⟨(R.old.setCell (p := ⟨b, j, none⟩) rfl _).drew, ?_, ?_, ?_, ?_, ?_, ?_⟩
  · have := R.size; simp [World.setCell, World.drew]; exact this
  · intro t ht
    rw [World.cell?_drew]
    by_cases e : t = j
    · subst e; exact World.cell?_setCell_same _ _ _ (R.todo t (Nat.le_refl _) hj)
    · rw [World.cell?_setCell_other _ _ _ _ (ne t e)]; exact R.done t (by omega)
  · intro t ht ht2
    rw [World.cell?_drew, World.cell?_setCell_other _ _ _ _ (ne t (by omega))]; exact R.todo t (by omega) ht2
  · intro t ht
    show (wr.setCell _ _).frozen? _ = false
    rw [World.frozen?_setCell]; exact R.free t ht
  · rw [World.cell?_drew, World.cell?_setCell_other _ _ _ _ (nB 0)]; exact R.c0
  · rw [World.cell?_drew, World.cell?_setCell_other _ _ _ _ (nB 1)]; exact R.c1

theorem Rel.start (b : Nat) (w : World) (ws ns : Nat → Nat) (p0 p1 : Nat) (hb : b < w.heap.size) (hc : ∀ i, i < 24 → w.cell? ⟨b, i, none⟩ = some (.int .u64 (ws i))) (hf : ∀ i, i < 24 → w.frozen? ⟨b, i, none⟩ = false) :
    Rel b w.heap.size 0 w (w.alloc (Obj.cells #[.int .u64 p0, .int .u64 p1] 76)) ws ns p0 p1 := by
  refine ⟨(Still.refl b w).alloc (Nat.le_of_lt hb) _ _, by simp, by intro t ht; omega, ?_, ?_, ?_, ?_⟩
  · intro t _ ht; rw [World.cell?_alloc_past _ _ _ hb]; exact hc t ht
  · intro t ht; rw [World.frozen?_alloc_past _ _ _ hb]; exact hf t ht
  · rw [World.cell?_alloc_at _ _ _ _ rfl]; rfl
  · rw [World.cell?_alloc_at _ _ _ _ rfl]; rfl

set_option maxHeartbeats 2000000 in
theorem put_core (b m at_ q p0 p1 : Nat) (w : World) (neg : Bool) (ws : Nat → Nat)
   (hq : (at_ : Int) / 64 = (q : Int)) (hqb : (q : Int) ≤ 22) (hp0 : IntKind.u64.wrap ((m : Int) * 2 ^ (at_ % 64)) = (p0 : Int))
   (hk : decide (0 < (at_ : Int) % 64) = true ∧ (m : Int) / 2 ^ (64 - at_ % 64) = (p1 : Int) ∨ decide (0 < (at_ : Int) % 64) = false ∧ p1 = 0)
   (h0 : Hid (b < w.heap.size)) (hc : Hid (∀ i, i < 24 → w.cell? ⟨b, i, none⟩ = some (.int .u64 (ws i)))) (hf : Hid (∀ i, i < 24 → w.frozen? ⟨b, i, none⟩ = false)) (_hb : (at_ : Int) % 64 ≤ 64) (_hb2 : 0 ≤ (at_ : Int) % 64)
   (hcy : Hid (∀ i, cy neg ws q p0 p1 i ≤ 1)) :
    Calls Try.prog 63 #[.pointer (some ⟨b, 0, none⟩), .int .u64 m, .int .i64 at_, .bool neg] w fun e w' => e = .returned (.tuple #[]) ∧ Rel b w.heap.size 24 w w' ws (nw neg ws q p0 p1) p0 p1 := by
  rcases hk with ⟨hk, hp1⟩ | ⟨hk, hz⟩
  all_goals
    first | (replace hz := Lib.hid hz) | skip
    go_enter Try.func63, Try.ntmps63
    go_wp2
    clear hq hp0 hk _hb _hb2
    go_loopw [11, 12] (fun c i wr => ∃ j : Nat, j ≤ 24 ∧ i = .int .i64 j ∧ c = .int .u64 (cy neg ws q p0 p1 j) ∧ Rel b w.heap.size j w wr ws (nw neg ws q p0 p1) p0 p1) (fun _ i _ => 24 - (intOf i).toNat)
    case atStart =>
      first
      | exact ⟨0, by omega, rfl, rfl, Rel.start b w ws _ p0 p1 h0.out hc.out hf.out⟩
      | (have hz := hz.out; subst hz; exact ⟨0, by omega, rfl, rfl, Rel.start b w ws _ p0 0 h0.out hc.out hf.out⟩)
    case round =>
      first | clear hp1 | clear hz
      obtain ⟨j, hj, rfl, rfl, R⟩ := hrel
      by_cases hlt : j < 24
      · have g1 := R.todo j (Nat.le_refl _) hlt
        have g2 := R.free j hlt
        have g3 := R.c0
        have g4 := R.c1
        have g5 := hcy.out j
        have HR := Lib.hid (R.step h0.out hlt)
        clear R hc hf hcy
        by_cases e1 : j = q
        · subst e1
          have hx : Hid (xw j p0 p1 j = p0) := by unfold xw; rw [if_pos rfl]; rfl
          cases neg
          · have X := xadd' (ws j) p0 (cy false ws j p0 p1 j) g5
            clear g5
            go_wp2
            go_region
            all_goals
              go_wp2
              go_roundw
              case rel => exact ⟨j + 1, hlt, by go_num, by rw [cy_succ false ws j p0 p1 j, hx.out], by have h := HR.out; rw [nw, hx.out] at h; exact h⟩
              case measure => simp [intOf]; omega
          · have X := xsub' (ws j) p0 (cy true ws j p0 p1 j) g5
            clear g5
            go_wp2
            go_region
            all_goals
              go_wp2
              go_roundw
              case rel => exact ⟨j + 1, hlt, by go_num, by rw [cy_succ true ws j p0 p1 j, hx.out], by have h := HR.out; rw [nw, hx.out] at h; exact h⟩
              case measure => simp [intOf]; omega
        · by_cases e2 : j = q + 1
          · subst e2
            have hx : Hid (xw q p0 p1 (q + 1) = p1) := by unfold xw; rw [if_neg (by omega), if_pos rfl]; rfl
            have z : ((q + 1 : Nat) : Int) - (q : Int) = 1 := by omega
            cases neg
            · have X := xadd' (ws (q + 1)) p1 (cy false ws q p0 p1 (q + 1)) g5
              clear g5
              go_wp2
              go_region
              all_goals
                go_wp2
                go_roundw
                case rel => exact ⟨(q + 1) + 1, hlt, by go_num, by rw [cy_succ false ws q p0 p1 (q + 1), hx.out], by have h := HR.out; rw [nw, hx.out] at h; exact h⟩
                case measure => simp [intOf]; omega
            · have X := xsub' (ws (q + 1)) p1 (cy true ws q p0 p1 (q + 1)) g5
              clear g5
              go_wp2
              go_region
              all_goals
                go_wp2
                go_roundw
                case rel => exact ⟨(q + 1) + 1, hlt, by go_num, by rw [cy_succ true ws q p0 p1 (q + 1), hx.out], by have h := HR.out; rw [nw, hx.out] at h; exact h⟩
                case measure => simp [intOf]; omega
          · have hx : Hid (xw q p0 p1 j = 0) := by unfold xw; rw [if_neg e1, if_neg e2]; rfl
            by_cases e3 : j < q
            · have t1 : decide ((j : Int) ≥ (q : Int)) = false := decide_eq_false (by omega)
              clear e1 e2
              cases neg
              · have X := xadd0 (ws j) (cy false ws q p0 p1 j) g5
                clear g5
                go_wp2
                go_region
                all_goals
                  go_wp2
                  go_roundw
                  case rel => exact ⟨j + 1, hlt, by go_num, by rw [cy_succ false ws q p0 p1 j, hx.out], by have h := HR.out; rw [nw, hx.out] at h; exact h⟩
                  case measure => simp [intOf]; omega
              · have X := xsub0 (ws j) (cy true ws q p0 p1 j) g5
                clear g5
                go_wp2
                go_region
                all_goals
                  go_wp2
                  go_roundw
                  case rel => exact ⟨j + 1, hlt, by go_num, by rw [cy_succ true ws q p0 p1 j, hx.out], by have h := HR.out; rw [nw, hx.out] at h; exact h⟩
                  case measure => simp [intOf]; omega
            · have t4 : (q : Int) + 2 ≤ (j : Int) := by omega
              clear e1 e2 e3
              cases neg
              · have X := xadd0 (ws j) (cy false ws q p0 p1 j) g5
                clear g5
                go_wp2
                all_goals
                  first
                  | (exfalso; omega)
                  | (go_region
                     all_goals
                       go_wp2
                       go_roundw
                       case rel => exact ⟨j + 1, hlt, by go_num, by rw [cy_succ false ws q p0 p1 j, hx.out], by have h := HR.out; rw [nw, hx.out] at h; exact h⟩
                       case measure => simp [intOf]; omega)
              · have X := xsub0 (ws j) (cy true ws q p0 p1 j) g5
                clear g5
                go_wp2
                all_goals
                  first
                  | (exfalso; omega)
                  | (go_region
                     all_goals
                       go_wp2
                       go_roundw
                       case rel => exact ⟨j + 1, hlt, by go_num, by rw [cy_succ true ws q p0 p1 j, hx.out], by have h := HR.out; rw [nw, hx.out] at h; exact h⟩
                       case measure => simp [intOf]; omega)
      · obtain rfl : j = 24 := by omega
        go_wp2
        go_end0
        exact ⟨rfl, R⟩
end Go.Proofs.Ytkfagpahbojigaa
