/- Proved here: what the texts Sva, Svb, Svc, Svd, Svm, Svn, Svo, Svp, Svq prove, one behind the other. -/
import Derived.Test.YtocnpcjpkieogaaGreatDoorJs5
import Derived.StillTailTactics

namespace Go.Proofs.YtocnpcjpkieogaaGreatDoor
open Go.ChangeShapes Go.WideShapes Go.ChangeAt Go.RowKit

theorem bl_frozen' {B : Nat} {w w' : World} (h : Below B w w') {g : Nat} (hg : g < B) (k : Nat) : w'.frozen? ⟨g, k, none⟩ = w.frozen? ⟨g, k, none⟩ := by
  unfold World.frozen?
  rw [h.block g hg]
/-- a decimal: 800 digits, how many count, where the point is, two marks -/
structure Dc (w0 : World) (a : Nat) (L : List Int) (nd dp : Int) (u : World) : Prop where
  old : Below w0.heap.size w0 u
  base : w0.heap.size ≤ a
  gin : a < u.heap.size
  len : L.length = 800
  dig : ∀ k, k < 800 → u.cell? ⟨a, k, none⟩ = some (.int .u8 (L.getD k 0))
  ndc : u.cell? ⟨a, 800, none⟩ = some (.int .i64 nd)
  dpc : u.cell? ⟨a, 801, none⟩ = some (.int .i64 dp)
  trc : u.cell? ⟨a, 803, none⟩ = some (.bool false)
  warm : ∀ k, u.frozen? ⟨a, k, none⟩ = false
theorem Dc.put {w0 u : World} {a k : Nat} {L : List Int} {nd dp : Int} (h : Dc w0 a L nd dp u) (hk : k < 800) (x : Int) : Dc w0 a (L.set k x) nd dp (u.setCell ⟨a, k, none⟩ (.int .u8 x)) := by
  have hl := h.len
  have same : (u.setCell ⟨a, k, none⟩ (.int .u8 x)).cell? ⟨a, k, none⟩ = some (.int .u8 x) := World.cell?_setCell_same _ _ _ (h.dig k hk)
  have other : ∀ j, j ≠ k → (u.setCell ⟨a, k, none⟩ (.int .u8 x)).cell? ⟨a, j, none⟩ = u.cell? ⟨a, j, none⟩ := fun j hj => World.cell?_setCell_other _ _ _ _ (by intro e; simp only [Addr.mk.injEq] at e; omega)
  refine ⟨h.old.setCell h.base _, h.base, by simpa using h.gin, by simpa using hl, fun j hj => ?_, (other _ (by omega)).trans h.ndc, (other _ (by omega)).trans h.dpc, (other _ (by omega)).trans h.trc, fun j => by rw [World.frozen?_setCell]; exact h.warm j⟩
  by_cases e : j = k
  · rw [e, same]; simp [List.getD, hk, hl]
  · rw [other j e, h.dig j hj]; simp [List.getD, Ne.symm e]
theorem Dc.setNd {w0 u : World} {a : Nat} {L : List Int} {nd dp : Int} (h : Dc w0 a L nd dp u) (x : Int) : Dc w0 a L x dp (u.setCell ⟨a, 800, none⟩ (.int .i64 x)) := by
  have other : ∀ j, j ≠ 800 → (u.setCell ⟨a, 800, none⟩ (.int .i64 x)).cell? ⟨a, j, none⟩ = u.cell? ⟨a, j, none⟩ := fun j hj => World.cell?_setCell_other _ _ _ _ (by intro e; simp only [Addr.mk.injEq] at e; omega)
  exact ⟨h.old.setCell h.base _, h.base, by simpa using h.gin, h.len, fun j hj => (other j (by omega)).trans (h.dig j hj), World.cell?_setCell_same _ _ _ h.ndc, (other _ (by omega)).trans h.dpc, (other _ (by omega)).trans h.trc, fun j => by rw [World.frozen?_setCell]; exact h.warm j⟩
theorem Dc.setDp {w0 u : World} {a : Nat} {L : List Int} {nd dp : Int} (h : Dc w0 a L nd dp u) (x : Int) : Dc w0 a L nd x (u.setCell ⟨a, 801, none⟩ (.int .i64 x)) := by
  have other : ∀ j, j ≠ 801 → (u.setCell ⟨a, 801, none⟩ (.int .i64 x)).cell? ⟨a, j, none⟩ = u.cell? ⟨a, j, none⟩ := fun j hj => World.cell?_setCell_other _ _ _ _ (by intro e; simp only [Addr.mk.injEq] at e; omega)
  exact ⟨h.old.setCell h.base _, h.base, by simpa using h.gin, h.len, fun j hj => (other j (by omega)).trans (h.dig j hj), (other _ (by omega)).trans h.ndc, World.cell?_setCell_same _ _ _ h.dpc, (other _ (by omega)).trans h.trc, fun j => by rw [World.frozen?_setCell]; exact h.warm j⟩
theorem Dc.drewN {w0 u : World} {a : Nat} {L : List Int} {nd dp : Int} (h : Dc w0 a L nd dp u) (n : Nat) : Dc w0 a L nd dp (u.drewN n) :=
  ⟨bl_drewN h.old n, h.base, h.gin, h.len, h.dig, h.ndc, h.dpc, h.trc, h.warm⟩
theorem Dc.drew {w0 u : World} {a : Nat} {L : List Int} {nd dp : Int} (h : Dc w0 a L nd dp u) : Dc w0 a L nd dp u.drew :=
  ⟨⟨h.old.os, h.old.tape, h.old.output, h.old.size, h.old.block⟩, h.base, h.gin, h.len, h.dig, h.ndc, h.dpc, h.trc, h.warm⟩
/-- a new block elsewhere, a write elsewhere: the decimal stays -/
theorem Dc.on {w0 u u' : World} {a : Nat} {L : List Int} {nd dp : Int} (h : Dc w0 a L nd dp u) (hb : Below u.heap.size u u') : Dc w0 a L nd dp u' := by
  have c : ∀ k, u'.cell? ⟨a, k, none⟩ = u.cell? ⟨a, k, none⟩ := fun k => hb.cell (p := ⟨a, k, none⟩) h.gin
  exact ⟨h.old.trans (hb.mono h.old.size), h.base, Nat.lt_of_lt_of_le h.gin hb.size, h.len, fun j hj => (c j).trans (h.dig j hj), (c _).trans h.ndc, (c _).trans h.dpc, (c _).trans h.trc, fun k => (bl_frozen' hb h.gin k).trans (h.warm k)⟩
/-- how many digits a world's decimal counts -/
def ndW (a : Nat) (u : World) : Nat := match u.cell? ⟨a, 800, none⟩ with
  | some (.int _ n) => n.toNat
  | _ => 0
theorem Dc.ndW {w0 u : World} {a : Nat} {L : List Int} {nd dp : Int} (h : Dc w0 a L nd dp u) : ndW a u = nd.toNat := by
  unfold Go.Proofs.YtocnpcjpkieogaaGreatDoor.ndW
  rw [h.ndc]
set_option maxRecDepth 100000 in
set_option maxHeartbeats 2000000 in
theorem trimD_run (w0 u : World) (a nd j : Nat) (L : List Int) (dp : Int) (hn : nd ≤ 800) (hj : j < nd) (hj2 : L.getD j 0 ≠ 48) (h : Dc w0 a L (nd : Int) dp u) :
    Calls Tryz.prog 115 #[.pointer (some ⟨a, 0, none⟩)] u fun e u' => ∃ z : Nat, z ≤ nd ∧ j < z ∧ L.getD (z - 1) 0 ≠ 48 ∧ (∀ k, z ≤ k → k < nd → L.getD k 0 = 48) ∧ e = .returned (.tuple #[]) ∧ Dc w0 a L (z : Int) dp u' := by
  replace h := Lib.hid h
  go_enter Tryz.func115, Tryz.ntmps115
  go_wp2_with fail
  go_loopw [2] (fun _ wr => ∃ z : Nat, z ≤ nd ∧ j < z ∧ (∀ k, z ≤ k → k < nd → L.getD k 0 = 48) ∧ Dc w0 a L (z : Int) dp wr) (fun _ wr => ndW a wr)
  case atStart => exact ⟨nd, Nat.le_refl _, hj, fun k h1 h2 => by omega, h.out⟩
  case round =>
    obtain ⟨z, hz, hz2, hk, R⟩ := hrel
    obtain ⟨y, rfl⟩ : ∃ y, z = y + 1 := ⟨z - 1, by omega⟩
    have c := R.dig y (by omega)
    have cn := R.ndc
    have fn := R.warm 800
    replace R := Lib.hid R
    replace hk := Lib.hid hk
    obtain ⟨x, hx⟩ : ∃ x, x = L.getD y 0 := ⟨_, rfl⟩
    rw [← hx] at c
    have hy : (y : Int) < 800 := by omega
    have hyh : Hid (y < 800) := by show y < 800; omega
    rw [show ((y + 1 : Nat) : Int) = (y : Int) + 1 by omega] at cn
    have w1 : IntKind.i64.wrap ((y : Int) + 1 - 1) = (y : Int) := by rw [show (y : Int) + 1 - 1 = (y : Int) by omega]; rw [IntKind.wrap_i64]; omega
    have g0 : decide (0 < (y : Int) + 1) = true := decide_eq_true (by omega)
    have m1 : Hid (ndW a wr = y + 1) := by show _ = _; rw [R.out.ndW]; omega
    by_cases q : x = 48
    · subst q
      replace hx := Lib.hid hx
      go_wp2_with fail
      go_quiet (fail)
      have R1 := R.out.drewN nq
      generalize wr.drewN nq = w2 at *
      have cn2 := R1.ndc
      rw [show ((y + 1 : Nat) : Int) = (y : Int) + 1 by omega] at cn2
      have fn2 := R1.warm 800
      have R3 := Lib.hid (R1.setNd (y : Int))
      clear R R1 c cn fn h
      go_wp2_with fail
      go_roundw
      case rel => exact ⟨y, by omega, by
        rcases Nat.lt_or_ge j y with h | h
        · exact h
        · obtain rfl : j = y := by omega
          exact absurd hx.out.symm hj2, fun k h1 h2 => by
        by_cases e : k = y
        · rw [e]; exact hx.out.symm
        · exact hk.out k (by omega) h2, R3.out⟩
      case measure => rw [m1.out, R3.out.ndW]; omega
    · have t : (x == 48) = false := by simpa using q
      have q2 : Hid (L.getD y 0 ≠ 48) := by show _ ≠ _; rw [← hx]; exact q
      clear q hx
      go_wp2_with fail
      go_quiet (fail)
      have R1 := R.out.drewN nq
      generalize wr.drewN nq = w2 at *
      have cn2 := R1.ndc
      rw [show ((y + 1 : Nat) : Int) = (y : Int) + 1 by omega] at cn2
      have z0 : decide ((y : Int) + 1 = 0) = false := decide_eq_false (by omega)
      have z1 : ((y : Int) + 1 == 0) = false := by simp; omega
      replace R1 := Lib.hid R1
      clear R c cn fn h m1
      go_wp2_with fail
      refine bodyPost_end (results_none rfl _ _ _) rfl ?_
      exact ⟨y + 1, hz, hz2, q2.out, hk.out, rfl, R1.out⟩
end Go.Proofs.YtocnpcjpkieogaaGreatDoor

namespace Go.Proofs.YtocnpcjpkieogaaGreatDoor
open Go.ChangeShapes Go.WideShapes Go.ChangeAt Go.RowKit

/-- is a decimal of z digits rounded up to D digits? -/
def srU (L : List Int) (D z : Nat) : Bool := if L.getD D 0 = 53 ∧ D + 1 = z then decide ((L.getD (D - 1) 0 - 48) % 2 = 1) else decide (53 ≤ L.getD D 0)
set_option maxRecDepth 100000 in
set_option maxHeartbeats 2000000 in
theorem sru_run (w0 u : World) (a D z : Nat) (L : List Int) (dp : Int) (hz : z ≤ 800) (hD : 1 ≤ D) (hDz : D < z) (hL : ∀ k, k < z → 48 ≤ L.getD k 0 ∧ L.getD k 0 ≤ 57) (h : Dc w0 a L (z : Int) dp u) :
    Calls Tryz.prog 118 #[.pointer (some ⟨a, 0, none⟩), .int .i64 (D : Int)] u fun e u' => e = .returned (.bool (srU L D z)) ∧ u' = u := by
  obtain ⟨y, rfl⟩ : ∃ y, D = y + 1 := ⟨D - 1, by omega⟩
  have c := h.dig (y + 1) (by omega)
  have c' := h.dig y (by omega)
  have cn := h.ndc
  have ct := h.trc
  obtain ⟨b1, b2⟩ := hL (y + 1) hDz
  obtain ⟨b3, b4⟩ := hL y (by omega)
  have R : srU L (y + 1) z = if L.getD (y + 1) 0 = 53 ∧ y + 2 = z then decide ((L.getD y 0 - 48) % 2 = 1) else decide (53 ≤ L.getD (y + 1) 0) := rfl
  rw [R]
  clear R
  generalize L.getD (y + 1) 0 = x at *
  generalize L.getD y 0 = x' at *
  rw [show ((y + 1 : Nat) : Int) = (y : Int) + 1 by omega]
  have g0 : decide ((y : Int) + 1 < 0) = false := decide_eq_false (by omega)
  have g1 : decide ((z : Int) ≤ (y : Int) + 1) = false := decide_eq_false (by omega)
  have g2 : decide (0 < (y : Int) + 1) = true := decide_eq_true (by omega)
  have hy : (y : Int) + 1 < 800 := by omega
  clear h hL hD
  by_cases q : x = 53
  · subst q
    by_cases q2 : y + 2 = z
    · have e2 : decide ((y : Int) + 2 = (z : Int)) = true := decide_eq_true (by omega)
      have e3 : ((y : Int) + 2 == (z : Int)) = true := by simp; omega
      have R : Hid (decide ((x' - 48) % 2 = 1) = ((x' - 48) % 2 != 0)) := by
        show _ = _
        rw [Bool.eq_iff_iff]
        simp only [decide_eq_true_eq, bne_iff_ne]
        omega
      rw [if_pos ⟨rfl, q2⟩, R.out]
      clear R q2 hz hDz
      go_enter Tryz.func118, Tryz.ntmps118
      go_wp2_with fail
      go_ret
      exact ⟨rfl, rfl⟩
    · have e3 : ((y : Int) + 2 == (z : Int)) = false := by simp; omega
      rw [if_neg (fun h => q2 h.2)]
      clear q2 hz hDz
      go_enter Tryz.func118, Tryz.ntmps118
      go_wp2_with fail
      go_ret
      exact ⟨rfl, rfl⟩
  · have t : (x == 53) = false := by simpa using q
    rw [if_neg (fun h => q h.1)]
    clear c' b3 b4 q hz hDz
    go_enter Tryz.func118, Tryz.ntmps118
    go_wp2_with fail
    go_ret
    exact ⟨rfl, rfl⟩
set_option maxRecDepth 100000 in
theorem rdown_run (w0 u : World) (a D z j : Nat) (L : List Int) (dp : Int) (hz : z ≤ 800) (hD : 1 ≤ D) (hDz : D < z) (hj : j < D) (hj2 : L.getD j 0 ≠ 48) (h : Dc w0 a L (z : Int) dp u) :
    Calls Tryz.prog 120 #[.pointer (some ⟨a, 0, none⟩), .int .i64 (D : Int)] u fun e u' => ∃ y : Nat, y ≤ D ∧ j < y ∧ L.getD (y - 1) 0 ≠ 48 ∧ (∀ k, y ≤ k → k < D → L.getD k 0 = 48) ∧ e = .returned (.tuple #[]) ∧ Dc w0 a L (y : Int) dp u' := by
  have cn := h.ndc
  have fn := h.warm 800
  have T := Lib.hid (trimD_run w0 _ a D j L dp (by omega) hj hj2 (h.setNd (D : Int)))
  have g0 : decide ((D : Int) < 0) = false := decide_eq_false (by omega)
  have g1 : decide (z ≤ D) = false := decide_eq_false (by omega)
  clear hz hD hDz hj hj2 h
  go_enter Tryz.func120, Tryz.ntmps120
  go_wp2_with fail
  refine T.out.mono ?_
  rintro _ u1 ⟨y, h1, h2, h3, h4, rfl, h5⟩
  replace h1 := Lib.hid (And.intro h1 (And.intro h2 (And.intro h3 (And.intro h4 h5))))
  clear h2 h3 h4 h5 T
  go_wp2_with fail
  refine bodyPost_end (results_none rfl _ _ _) rfl ?_
  exact ⟨y, h1.out.1, h1.out.2.1, h1.out.2.2.1, h1.out.2.2.2.1, rfl, h1.out.2.2.2.2⟩
set_option maxRecDepth 100000 in
set_option maxHeartbeats 2000000 in
theorem rup_run (w0 u : World) (a D z : Nat) (L : List Int) (dp : Int) (hz : z ≤ 800) (hD : 1 ≤ D) (hDz : D < z) (hdp : -1000 ≤ dp ∧ dp ≤ 1000) (hL : ∀ k, k < z → 48 ≤ L.getD k 0 ∧ L.getD k 0 ≤ 57) (h : Dc w0 a L (z : Int) dp u) :
    Calls Tryz.prog 119 #[.pointer (some ⟨a, 0, none⟩), .int .i64 (D : Int)] u fun e u' => e = .returned (.tuple #[]) ∧
      ((∃ i, i < D ∧ L.getD i 0 ≠ 57 ∧ (∀ k, i < k → k < D → L.getD k 0 = 57) ∧ Dc w0 a (L.set i (L.getD i 0 + 1)) ((i : Int) + 1) dp u') ∨ ((∀ k, k < D → L.getD k 0 = 57) ∧ Dc w0 a (L.set 0 49) 1 (dp + 1) u')) := by
  have cn := h.ndc
  have g0 : decide ((D : Int) < 0) = false := decide_eq_false (by omega)
  have g1 : decide (z ≤ D) = false := decide_eq_false (by omega)
  have hDi : (D : Int) < 800 := by omega
  have hd1 := Lib.hid hdp
  replace h := Lib.hid h
  go_enter Tryz.func119, Tryz.ntmps119
  go_wp2_with fail
  go_loop [4] (fun iv => ∃ (i : Nat) (v : Int), i ≤ D ∧ v = (i : Int) - 1 ∧ iv = .int .i64 v ∧ ∀ k, i ≤ k → k < D → L.getD k 0 = 57) (fun iv => (intOf iv + 1).toNat)
  case atStart => exact ⟨D, _, Nat.le_refl _, rfl, by go_num, fun k h1 h2 => by omega⟩
  case round =>
    obtain ⟨i, v, hi, hv, rfl, hk⟩ := hrel
    by_cases hi0 : i = 0
    · subst hi0
      have gv : decide (0 ≤ v) = false := decide_eq_false (by omega)
      clear hv
      have e0 := h.out.dig 0 (by omega)
      have f0 := h.out.warm 0
      have R1 := h.out.put (k := 0) (by omega) 49
      have n1 := R1.ndc
      have fn := R1.warm 800
      have R2 := R1.setNd 1
      have d2 := R2.dpc
      have fd := R2.warm 801
      have R3 := Lib.hid (R2.setDp (dp + 1))
      obtain ⟨q1, q2⟩ := hd1.out
      replace hk := Lib.hid hk
      clear R1 R2 h hL
      go_wp2_with fail
      refine bodyPost_end (results_none rfl _ _ _) rfl ?_
      exact ⟨rfl, Or.inr ⟨fun k hk2 => hk.out k (by omega) hk2, R3.out⟩⟩
    · obtain ⟨t, rfl⟩ : ∃ t, i = t + 1 := ⟨i - 1, by omega⟩
      obtain rfl : v = (t : Int) := by omega
      have gv : decide (0 ≤ (t : Int)) = true := decide_eq_true (by omega)
      have c := h.out.dig t (by omega)
      have fc := h.out.warm t
      obtain ⟨b1, b2⟩ := hL t (by omega)
      obtain ⟨x, hx⟩ : ∃ x, x = L.getD t 0 := ⟨_, rfl⟩
      rw [← hx] at c b1 b2
      have ht : (t : Int) < 800 := by omega
      replace hk := Lib.hid hk
      by_cases q : x = 57
      · subst q
        replace hx := Lib.hid hx
        have e3 : Hid ((t : Int) - 1 = (t : Int) + -1) := by show _ = _; omega
        clear fc hL hz hD hDz hdp hv hd1 h
        go_wp2_with fail
        go_round
        case rel => exact ⟨t, (t : Int) - 1, by omega, rfl, by go_num, fun k h1 h2 => by
          by_cases e : k = t
          · rw [e]; exact hx.out.symm
          · exact hk.out k (by omega) h2⟩
        case measure => first | (simp [intOf]; done) | (simp [intOf]; omega)
      · have g3 : decide (x < 57) = true := decide_eq_true (by omega)
        have w1 : IntKind.u8.wrap (x + 1) = x + 1 := by rw [show IntKind.u8.wrap (x + 1) = (x + 1) % 256 from rfl]; omega
        have R1 := (h.out.put (k := t) (by omega) (x + 1)).drew
        have n1 := R1.ndc
        have fn := R1.warm 800
        have R2 := Lib.hid (R1.setNd ((t : Int) + 1))
        have q2 : Hid (L.getD t 0 ≠ 57) := by show _ ≠ _; rw [← hx]; exact q
        replace hx := Lib.hid hx
        clear R1 hL q hz hD hDz hdp hv hd1 h
        go_wp2_with fail
        go_still_tail 10, (by kernel_rfl)
        change wpList _ _ _ _ _ u.drew
        go_wp2_with fail
        refine bodyPost_ret (v := .tuple #[]) (results_none rfl _ _ _) rfl ?_
        exact ⟨rfl, Or.inl ⟨t, by omega, q2.out, fun k h1 h2 => hk.out k (by omega) h2, by rw [← hx.out]; exact R2.out⟩⟩
end Go.Proofs.YtocnpcjpkieogaaGreatDoor

namespace Go.Proofs.YtocnpcjpkieogaaGreatDoor
open Go.ChangeShapes Go.WideShapes Go.ChangeAt Go.RowKit

def UpTo (w0 : World) (a D : Nat) (L : List Int) (dp : Int) (u' : World) : Prop :=
  (∃ i, i < D ∧ L.getD i 0 ≠ 57 ∧ (∀ k, i < k → k < D → L.getD k 0 = 57) ∧ Dc w0 a (L.set i (L.getD i 0 + 1)) ((i : Int) + 1) dp u') ∨ ((∀ k, k < D → L.getD k 0 = 57) ∧ Dc w0 a (L.set 0 49) 1 (dp + 1) u')
def DownTo (w0 : World) (a D : Nat) (L : List Int) (dp : Int) (u' : World) : Prop :=
  ∃ y : Nat, y ≤ D ∧ 0 < y ∧ L.getD (y - 1) 0 ≠ 48 ∧ (∀ k, y ≤ k → k < D → L.getD k 0 = 48) ∧ Dc w0 a L (y : Int) dp u'
set_option maxRecDepth 100000 in
set_option maxHeartbeats 2000000 in
theorem round_run (w0 u : World) (a D z : Nat) (L : List Int) (dp : Int) (hz : z ≤ 800) (hD : 1 ≤ D) (hD2 : D ≤ 100) (hdp : -1000 ≤ dp ∧ dp ≤ 1000) (hL : ∀ k, k < z → 48 ≤ L.getD k 0 ∧ L.getD k 0 ≤ 57) (h0 : L.getD 0 0 ≠ 48) (h : Dc w0 a L (z : Int) dp u) :
    Calls Tryz.prog 82 #[.pointer (some ⟨a, 0, none⟩), .int .i64 (D : Int)] u fun e u' => e = .returned (.tuple #[]) ∧
      ((z ≤ D ∧ Dc w0 a L (z : Int) dp u') ∨ (D < z ∧ srU L D z = true ∧ UpTo w0 a D L dp u') ∨ (D < z ∧ srU L D z = false ∧ DownTo w0 a D L dp u')) := by
  have cn := h.ndc
  have g0 : decide ((D : Int) < 0) = false := decide_eq_false (by omega)
  by_cases q : z ≤ D
  · have g1 : decide (z ≤ D) = true := decide_eq_true q
    replace h := Lib.hid h
    have q' := Lib.hid q
    clear hL h0 hdp hz hD hD2 q
    go_enter Tryz.func82, Tryz.ntmps82
    go_wp2_with fail
    refine bodyPost_ret (v := .tuple #[]) (results_none rfl _ _ _) rfl ?_
    exact ⟨rfl, Or.inl ⟨q'.out, h.out⟩⟩
  · have g1 : decide (z ≤ D) = false := decide_eq_false q
    have q' : Hid (D < z) := by show D < z; omega
    have S := Lib.hid (sru_run w0 u a D z L dp hz hD (by omega) hL h)
    have U := Lib.hid (rup_run w0 u a D z L dp hz hD (by omega) hdp hL h)
    have W := Lib.hid (rdown_run w0 u a D z 0 L dp hz hD (by omega) (by omega) h0 h)
    obtain ⟨b, hb⟩ : ∃ b, b = srU L D z := ⟨_, rfl⟩
    rw [← hb] at S ⊢
    clear hL h0 hdp hz hD hD2 q h hb
    cases b
    · go_enter Tryz.func82, Tryz.ntmps82
      go_wp2_with fail
      refine S.out.mono ?_
      rintro _ u1 ⟨rfl, rfl⟩
      clear S U
      go_wp2_with fail
      refine W.out.mono ?_
      rintro _ u2 ⟨y, h1, h2, h3, h4, rfl, h5⟩
      have R := Lib.hid (show DownTo w0 a D L dp u2 from ⟨y, h1, h2, h3, h4, h5⟩)
      clear W h1 h2 h3 h4 h5 cn
      go_wp2_with fail
      refine bodyPost_end (results_none rfl _ _ _) rfl ?_
      exact ⟨rfl, Or.inr (Or.inr ⟨q'.out, trivial, R.out⟩)⟩
    · go_enter Tryz.func82, Tryz.ntmps82
      go_wp2_with fail
      refine S.out.mono ?_
      rintro _ u1 ⟨rfl, rfl⟩
      clear S W
      go_wp2_with fail
      refine U.out.mono ?_
      rintro _ u2 ⟨rfl, h5⟩
      have R := Lib.hid (show UpTo w0 a D L dp u2 from h5)
      clear U h5 cn
      go_wp2_with fail
      refine bodyPost_end (results_none rfl _ _ _) rfl ?_
      exact ⟨rfl, Or.inr (Or.inl ⟨q'.out, trivial, R.out⟩)⟩
end Go.Proofs.YtocnpcjpkieogaaGreatDoor

namespace Go.Proofs.YtocnpcjpkieogaaGreatDoor
open Go.ChangeShapes Go.WideShapes Go.ChangeAt Go.RowKit

theorem Dc.aside {w0 u : World} {a g k : Nat} {L : List Int} {nd dp : Int} (h : Dc w0 a L nd dp u) (hg : w0.heap.size ≤ g) (hne : a ≠ g) (v : Value) : Dc w0 a L nd dp (u.setCell ⟨g, k, none⟩ v) := by
  have other : ∀ j, (u.setCell ⟨g, k, none⟩ v).cell? ⟨a, j, none⟩ = u.cell? ⟨a, j, none⟩ := fun j => World.cell?_setCell_other _ _ _ _ (by intro e; simp only [Addr.mk.injEq] at e; exact hne e.1.symm)
  exact ⟨h.old.setCell hg _, h.base, by simpa using h.gin, h.len, fun j hj => (other j).trans (h.dig j hj), (other _).trans h.ndc, (other _).trans h.dpc, (other _).trans h.trc, fun j => by rw [World.frozen?_setCell]; exact h.warm j⟩
/-- the digits, the last one first, in a block of 24 bytes -/
structure Bf (w0 : World) (g m j : Nat) (u : World) : Prop where
  base : w0.heap.size ≤ g
  gin : g < u.heap.size
  there : ∀ k, k < 24 → ∃ v, u.cell? ⟨g, k, none⟩ = some v
  dig : ∀ k, k < j → u.cell? ⟨g, k, none⟩ = some (.int .u8 (48 + ((m / 10 ^ k % 10 : Nat) : Int)))
  warm : ∀ k, u.frozen? ⟨g, k, none⟩ = false
theorem Bf.put {w0 u : World} {g m j : Nat} (h : Bf w0 g m j u) (hj : j < 24) : Bf w0 g m (j + 1) (u.setCell ⟨g, j, none⟩ (.int .u8 (48 + ((m / 10 ^ j % 10 : Nat) : Int)))) := by
  obtain ⟨v, hv⟩ := h.there j hj
  have same := World.cell?_setCell_same u ⟨g, j, none⟩ (.int .u8 (48 + ((m / 10 ^ j % 10 : Nat) : Int))) hv
  have other : ∀ k, k ≠ j → (u.setCell ⟨g, j, none⟩ (.int .u8 (48 + ((m / 10 ^ j % 10 : Nat) : Int)))).cell? ⟨g, k, none⟩ = u.cell? ⟨g, k, none⟩ := fun k hk => World.cell?_setCell_other _ _ _ _ (by intro e; simp only [Addr.mk.injEq] at e; omega)
  refine ⟨h.base, by simpa using h.gin, fun k hk => ?_, fun k hk => ?_, fun k => by rw [World.frozen?_setCell]; exact h.warm k⟩
  · by_cases e : k = j
    · rw [e]; exact ⟨_, same⟩
    · rw [other k e]; exact h.there k hk
  · by_cases e : k = j
    · rw [e]; exact same
    · rw [other k e]; exact h.dig k (by omega)
theorem Bf.on {w0 u u' : World} {g m j : Nat} (h : Bf w0 g m j u) (hs : u.heap.size ≤ u'.heap.size) (hc : ∀ k, u'.cell? ⟨g, k, none⟩ = u.cell? ⟨g, k, none⟩) (hf : ∀ k, u'.frozen? ⟨g, k, none⟩ = u.frozen? ⟨g, k, none⟩) : Bf w0 g m j u' :=
  ⟨h.base, Nat.lt_of_lt_of_le h.gin hs, fun k hk => by rw [hc]; exact h.there k hk, fun k hk => (hc k).trans (h.dig k hk), fun k => (hf k).trans (h.warm k)⟩
set_option maxRecDepth 100000 in
set_option maxHeartbeats 4000000 in
theorem assign_run (w0 u : World) (a m : Nat) (L : List Int) (nd dp : Int) (hm1 : 10 ^ 15 ≤ m) (hm2 : m < 10 ^ 16) (h : Dc w0 a L nd dp u) :
    Calls Tryz.prog 80 #[.pointer (some ⟨a, 0, none⟩), .int .u64 (m : Int)] u fun e u' => e = .returned (.tuple #[]) ∧
      ∃ (z : Nat) (L' : List Int), z ≤ 16 ∧ 0 < z ∧ L'.getD (z - 1) 0 ≠ 48 ∧ (∀ k, k < 16 → L'.getD k 0 = (dgI 16 m).getD k 0) ∧ (∀ k, z ≤ k → k < 16 → L'.getD k 0 = 48) ∧ Dc w0 a L' (z : Int) 16 u' := by
  have hg : a < u.heap.size := h.gin
  have hw0 : w0.heap.size ≤ u.heap.size := h.old.size
  replace h := Lib.hid h
  go_enter Tryz.func80, Tryz.ntmps80
  go_wp2_with fail
  have hin : Hid (∀ (C : Array Value) (T : TypeId), C.size = 24 → Dc w0 a L nd dp (u.alloc (.cells C T)) ∧ Bf w0 u.heap.size m 0 (u.alloc (.cells C T))) := by
    intro C T hC
    refine ⟨h.out.on ((Below.refl _ _).alloc (Nat.le_refl _) _), hw0, by simp, fun k hk => ?_, fun k hk => by omega, fun k => World.frozen?_alloc_at _ _ _ _ rfl⟩
    rw [World.cell?_alloc_at _ _ _ _ rfl]
    exact ⟨_, Array.getElem?_eq_getElem (by omega)⟩
  have hne : Hid (a ≠ u.heap.size) := by show _ ≠ _; omega
  obtain ⟨g, hgdef⟩ : ∃ g, g = u.heap.size := ⟨_, rfl⟩
  rw [← hgdef] at hin hne
  go_loopw [1, 5] (fun vv nv wr => ∃ j : Nat, j ≤ 16 ∧ vv = .int .u64 ((m / 10 ^ j : Nat) : Int) ∧ nv = .int .i64 (j : Int) ∧ Dc w0 a L nd dp wr ∧ Bf w0 g m j wr) (fun vv _ _ => (intOf vv).toNat)
  case atStart => exact ⟨0, by omega, by rw [Nat.pow_zero, Nat.div_one], rfl, (hin.out _ _ rfl).1, (hin.out _ _ rfl).2⟩
  case round =>
    obtain ⟨j, hj, rfl, rfl, hD, hB⟩ := hrel
    rw [← hgdef] at *
    clear hin h
    by_cases q : m / 10 ^ j = 0
    · have hj16 : j = 16 := by
        by_cases e : j ≤ 15
        · have h1 : 10 ^ j ≤ 10 ^ 15 := Nat.pow_le_pow_right (by decide) e
          have h2 : 0 < m / 10 ^ j := Nat.div_pos (by omega) (Nat.pow_pos (by decide))
          omega
        · omega
      subst hj16
      rw [q]
      have n1 := hD.ndc
      have fn := hD.warm 800
      have h1 := hD.setNd 0
      have h2 : Bf w0 g m 16 (wr.setCell ⟨a, 800, none⟩ (.int .i64 0)) := hB.on (by simp) (fun k => World.cell?_setCell_other _ _ _ _ (by intro e; simp only [Addr.mk.injEq] at e; exact hne.out e.1)) (fun k => World.frozen?_setCell _ _ _ _)
      have h3 : Hid (Dc w0 a L 0 dp (wr.setCell ⟨a, 800, none⟩ (.int .i64 0)) ∧ Bf w0 g m 16 (wr.setCell ⟨a, 800, none⟩ (.int .i64 0))) := ⟨h1, h2⟩
      clear h1 h2 hD hB
      replace hm1 := Lib.hid hm1
      replace hm2 := Lib.hid hm2
      clear q hw0 hg
      go_wp2_with fail
      go_loopw [5] (fun iv wr => ∃ (q : Nat) (v : Int) (L' : List Int), q ≤ 16 ∧ v = 15 - (q : Int) ∧ iv = .int .i64 v ∧ (∀ k, k < q → L'.getD k 0 = (dgI 16 m).getD k 0) ∧ Dc w0 a L' (q : Int) dp wr ∧ Bf w0 g m 16 wr) (fun iv _ => (intOf iv + 1).toNat)
      case atStart => exact ⟨0, 15, L, by omega, by omega, rfl, fun k hk => by omega, h3.out.1, h3.out.2⟩
      case round =>
        obtain ⟨q, v, L', hq, hv, rfl, hk, hD, hB⟩ := hrel
        clear h3 n1 fn
        by_cases hq16 : q = 16
        · subst hq16
          have gv : decide (0 ≤ v) = false := decide_eq_false (by omega)
          have n1 := hD.ndc
          have fn := hD.warm 801
          have hl0 : L'.getD 0 0 ≠ 48 := by
            rw [hk 0 (by omega), dgI_at 16 m 0 (by omega)]
            have h1 := hm1.out
            have h2 := hm2.out
            rw [show 16 - 1 - 0 = 15 by rfl]
            rw [show (10 : Nat) ^ 15 = 1000000000000000 by rfl] at *
            rw [show (10 : Nat) ^ 16 = 10000000000000000 by rfl] at *
            omega
          have T := Lib.hid (trimD_run w0 _ a 16 0 L' 16 (by omega) (by omega) hl0 (hD.setDp 16))
          replace hk := Lib.hid hk
          have n2 := hD.dpc
          clear hD hB hv hq hl0
          go_wp2_with fail
          refine T.out.mono ?_
          rintro _ u1 ⟨z, t1, t2, t3, t4, rfl, t5⟩
          have R := Lib.hid (show ∃ (z : Nat) (L'' : List Int), z ≤ 16 ∧ 0 < z ∧ L''.getD (z - 1) 0 ≠ 48 ∧ (∀ k, k < 16 → L''.getD k 0 = (dgI 16 m).getD k 0) ∧ (∀ k, z ≤ k → k < 16 → L''.getD k 0 = 48) ∧ Dc w0 a L'' (z : Int) 16 u1 from ⟨z, L', t1, t2, t3, hk.out, t4, t5⟩)
          clear T hk t1 t2 t3 t4 t5
          go_wp2_with fail
          refine bodyPost_end (results_none rfl _ _ _) rfl ?_
          exact ⟨rfl, R.out⟩
        · have gv : decide (0 ≤ v) = true := decide_eq_true (by omega)
          obtain ⟨p, hp⟩ : ∃ p : Nat, p + q = 15 := ⟨15 - q, by omega⟩
          obtain rfl : v = (p : Int) := by omega
          have c := hB.dig p (by omega)
          have eD : 48 + ((m / 10 ^ p % 10 : Nat) : Int) = (dgI 16 m).getD q 0 := by
            rw [dgI_at 16 m q (by omega), show 16 - 1 - q = p by omega]
          rw [eD] at c
          have nq := hD.ndc
          have cq := hD.dig q (by omega)
          have fq := hD.warm q
          have R1 := (hD.put (k := q) (by omega) ((dgI 16 m).getD q 0)).drew
          have nq2 := R1.ndc
          have fq2 := R1.warm 800
          have R2 := Lib.hid (R1.setNd ((q : Int) + 1))
          have B2 : Hid (∀ x y, Bf w0 g m 16 (((wr.setCell ⟨a, q, none⟩ x).drew).setCell ⟨a, 800, none⟩ y)) := fun x y => hB.on (by simp) (fun k => by
            rw [World.cell?_setCell_other _ _ _ _ (by intro e; simp only [Addr.mk.injEq] at e; exact hne.out e.1)]
            exact World.cell?_setCell_other _ _ _ _ (by intro e; simp only [Addr.mk.injEq] at e; exact hne.out e.1)) (fun k => by rw [World.frozen?_setCell]; exact World.frozen?_setCell _ _ _ _)
          have hk2 : Hid (∀ k, k < q + 1 → (L'.set q ((dgI 16 m).getD q 0)).getD k 0 = (dgI 16 m).getD k 0) := by
            intro k hk3
            by_cases e : k = q
            · rw [e]; simp [List.getD, hD.len, show q < 800 by omega]
            · rw [show (L'.set q ((dgI 16 m).getD q 0)).getD k 0 = L'.getD k 0 by simp [List.getD, Ne.symm e]]
              exact hk k (by omega)
          have hp2 : (p : Int) < 24 := by omega
          have hq2 : (q : Int) < 800 := by omega
          generalize (dgI 16 m).getD q 0 = x at *
          replace hp := Lib.hid hp
          clear R1 hD hB hv hq eD hk hq16
          go_wp2_with fail
          go_still_tail 11, (by kernel_rfl)
          change wpList _ _ _ _ _ wr.drew
          go_wp2_with fail
          go_roundw
          case rel => exact ⟨q + 1, (p : Int) - 1, L'.set q x, by have := hp.out; omega, by have := hp.out; omega, by go_num, hk2.out, R2.out, B2.out _ _⟩
          case measure => first | (simp [intOf]; done) | (simp [intOf]; omega)
    · have hj15 : j ≤ 15 := by
        by_cases e : j = 16
        · subst e
          exact absurd (Nat.div_eq_of_lt hm2) q
        · omega
      have hV : m / 10 ^ j < 10 ^ 16 := Nat.lt_of_le_of_lt (Nat.div_le_self _ _) hm2
      rw [show (10 : Nat) ^ 16 = 10000000000000000 by rfl] at hV
      have hnext : m / 10 ^ (j + 1) = m / 10 ^ j / 10 := by rw [Nat.pow_succ, Nat.div_div_eq_div_mul]
      have hB2 := hB.put (by omega : j < 24)
      have hD2 := hD.aside (g := g) (k := j) hB.base hne.out (.int .u8 (48 + ((m / 10 ^ j % 10 : Nat) : Int)))
      obtain ⟨v0, cj⟩ := hB.there j (by omega)
      have fj := hB.warm j
      generalize m / 10 ^ j = V at *
      have R : Hid (Dc w0 a L nd dp (wr.setCell ⟨g, j, none⟩ (.int .u8 (48 + ((V % 10 : Nat) : Int)))) ∧ Bf w0 g m (j + 1) (wr.setCell ⟨g, j, none⟩ (.int .u8 (48 + ((V % 10 : Nat) : Int))))) := ⟨hD2, hB2⟩
      have eV : (V : Int) - 10 * ((V : Int) / 10) = ((V % 10 : Nat) : Int) := by omega
      have e48 : ((V % 10 : Nat) : Int) + 48 = 48 + ((V % 10 : Nat) : Int) := by omega
      have hV1 : (V : Int) ≤ 10000000000000000 := by omega
      have hV0 : 1 ≤ (V : Int) := by omega
      have hji : (j : Int) < 24 := by omega
      have hdgt : 48 + ((V % 10 : Nat) : Int) ≤ 57 := by omega
      replace hnext := Lib.hid hnext
      replace hj15 := Lib.hid hj15
      replace q := Lib.hid q
      clear hm1 hm2 hw0 hg hD2 hB2 hD hB hV hj
      go_wp2_with fail
      go_roundw
      case rel =>
        have R' := R.out
        rw [show 48 + ((V % 10 : Nat) : Int) = (V : Int) % 10 + 48 by omega] at R'
        exact ⟨j + 1, by have := hj15.out; omega, by rw [hnext.out]; congr 1, by go_num, R'.1, R'.2⟩
      case measure => first | (simp [intOf]; done) | (simp [intOf]; omega)
end Go.Proofs.YtocnpcjpkieogaaGreatDoor

namespace Go.Proofs.YtocnpcjpkieogaaGreatDoor

theorem rneD_scale {N D c : Nat} (hc : 0 < c) : rneD (N * c) (D * c) = rneD N D := by
  unfold rneD
  rw [Nat.mul_div_mul_right _ _ hc, Nat.mul_mod_mul_right]
  have h1 : D * c < 2 * (N % D * c) ↔ D < 2 * (N % D) := by
    rw [show 2 * (N % D * c) = 2 * (N % D) * c by rw [Nat.mul_assoc]]
    exact Nat.mul_lt_mul_right hc
  have h2 : D * c = 2 * (N % D * c) ↔ D = 2 * (N % D) := by
    rw [show 2 * (N % D * c) = 2 * (N % D) * c by rw [Nat.mul_assoc]]
    exact Nat.mul_left_inj (by omega)
  simp only [h1, h2]
theorem rneD_cross {N D N' D' : Nat} (h0 : 0 < D) (h0' : 0 < D') (h : N * D' = N' * D) : rneD N D = rneD N' D' := by
  rw [← rneD_scale (N := N) (D := D) h0', ← rneD_scale (N := N') (D := D') h0, h, Nat.mul_comm D D']
theorem rneD_one (N : Nat) : rneD N 1 = N := by
  unfold rneD
  rw [Nat.div_one, Nat.mod_one, if_neg (by omega)]
  omega
/-- the rounded number, where no more digits than wanted stand -/
theorem rneD_few {X K Q w D : Nat} (hK : 0 < K) (h : X * 10 ^ w = K * Q * 10 ^ D) (hw : w ≤ D) : rneD X K = Q * 10 ^ (D - w) := by
  rw [rneD_cross (N' := Q * 10 ^ (D - w)) (D' := 1) hK (by decide) ?_, rneD_one]
  have p : 0 < 10 ^ w := Nat.pow_pos (by decide)
  apply Nat.eq_of_mul_eq_mul_right p
  rw [Nat.mul_one, h, show 10 ^ D = 10 ^ (D - w) * 10 ^ w by rw [← Nat.pow_add]; congr 1; omega]
  rw [Nat.mul_comm K Q, Nat.mul_assoc, Nat.mul_assoc, Nat.mul_assoc]
  congr 1
  rw [← Nat.mul_assoc, ← Nat.mul_assoc, Nat.mul_comm K]
/-- and where more stand -/
theorem rneD_more {X K Q w D : Nat} (hK : 0 < K) (h : X * 10 ^ w = K * Q * 10 ^ D) (hw : D ≤ w) : rneD X K = rneD Q (10 ^ (w - D)) := by
  refine rneD_cross hK (Nat.pow_pos (by decide)) ?_
  have p : 0 < 10 ^ D := Nat.pow_pos (by decide)
  apply Nat.eq_of_mul_eq_mul_right p
  rw [Nat.mul_assoc, ← Nat.pow_add, show w - D + D = w by omega, h, Nat.mul_comm K Q]
theorem all_noughts' : ∀ (w n : Nat), (∀ x ∈ dgI w n, x = 48) → n % 10 ^ w = 0
  | 0, n, _ => by simp; omega
  | w + 1, n, h => by
    rw [dgI_succ] at h
    have h1 := all_noughts' w (n / 10) fun x hx => h x (List.mem_append_left _ hx)
    have h2 := h (48 + ((n % 10 : Nat) : Int)) (List.mem_append_right _ (List.mem_cons_self ..))
    have h3 : n % 10 = 0 := by omega
    rw [Nat.pow_succ, Nat.mul_comm, Nat.mod_mul, h1, h3]
/-- digits that are all noughts -/
theorem dgI_noughts {w n : Nat} (h : ∀ k, k < w → (dgI w n).getD k 0 = 48) : n % 10 ^ w = 0 := by
  apply all_noughts'
  intro x hx
  obtain ⟨k, hk, rfl⟩ := List.getElem_of_mem hx
  rw [dgI_len] at hk
  have := h k hk
  rw [List.getD, List.getElem?_eq_getElem (by rw [dgI_len]; exact hk)] at this
  exact this
theorem getD_app_right {A B : List Int} (k : Nat) : (A ++ B).getD (A.length + k) 0 = B.getD k 0 := by
  simp only [List.getD]
  rw [List.getElem?_append_right (by omega), Nat.add_sub_cancel_left]
/-- the library's test on rounding up is the exact one -/
theorem srU_is {L : List Int} {w Q D z : Nat} (hz : D < z) (hzw : z ≤ w) (hD : 1 ≤ D) (hd : ∀ j, j < w → L.getD j 0 = (dgI w Q).getD j 0) (hz0 : ∀ j, z ≤ j → j < w → L.getD j 0 = 48) (hz1 : L.getD (z - 1) 0 ≠ 48) :
    rneD Q (10 ^ (w - D)) = Q / 10 ^ (w - D) + if srU L D z = true then 1 else 0 := by
  obtain ⟨e, he⟩ : ∃ e, w = D + 1 + e := ⟨w - D - 1, by omega⟩
  have hP : (10 : Nat) ^ (w - D) = 10 ^ e * 10 := by rw [show w - D = e + 1 by omega, Nat.pow_succ]
  have p0 : 0 < 10 ^ e := Nat.pow_pos (by decide)
  have hLD : L.getD D 0 = 48 + ((Q / 10 ^ e % 10 : Nat) : Int) := by
    rw [hd D (by omega), dgI_at w Q D (by omega), show w - 1 - D = e by omega]
  have hLD1 : L.getD (D - 1) 0 = 48 + ((Q / (10 ^ e * 10) % 10 : Nat) : Int) := by
    rw [hd (D - 1) (by omega), dgI_at w Q (D - 1) (by omega), show w - 1 - (D - 1) = e + 1 by omega, Nat.pow_succ]
  have hm : Q % (10 ^ e * 10) = Q % 10 ^ e + 10 ^ e * (Q / 10 ^ e % 10) := Nat.mod_mul
  have tie : Q % 10 ^ e = 0 ↔ D + 1 = z := by
    constructor
    · intro h0
      by_cases q : D + 1 = z
      · exact q
      · exfalso
        apply hz1
        rw [hd (z - 1) (by omega), dgI_at w Q (z - 1) (by omega), show w - 1 - (z - 1) = w - z by omega]
        obtain ⟨c, hc⟩ := Nat.dvd_of_mod_eq_zero h0
        have e1 : 10 ^ e = 10 ^ (w - z) * (10 * 10 ^ (e - (w - z) - 1)) := by
          rw [Nat.mul_comm 10, ← Nat.pow_succ, ← Nat.pow_add]; congr 1; omega
        rw [hc, e1, Nat.mul_assoc, Nat.mul_div_cancel_left _ (Nat.pow_pos (by decide)), Nat.mul_assoc, Nat.mul_mod_right]
        rfl
    · intro h0
      refine dgI_noughts fun k hk => ?_
      have h1 := hz0 (D + 1 + k) (by omega) (by omega)
      rw [hd _ (by omega), he, dgI_split] at h1
      have h2 : (dgI (D + 1) (Q / 10 ^ e) ++ dgI e Q).getD ((dgI (D + 1) (Q / 10 ^ e)).length + k) 0 = (dgI e Q).getD k 0 := getD_app_right k
      rw [dgI_len] at h2
      exact h2.symm.trans h1
  rw [hP]
  unfold rneD srU
  rw [hm, hLD, hLD1]
  generalize hT : Q / (10 ^ e * 10) = H at *
  have c9 : Q / 10 ^ e % 10 < 10 := Nat.mod_lt _ (by decide)
  generalize Q / 10 ^ e % 10 = c at *
  have r9 : Q % 10 ^ e < 10 ^ e := Nat.mod_lt _ p0
  generalize Q % 10 ^ e = r at *
  generalize 10 ^ e = P at *
  congr 1
  have key : (P * 10 < 2 * (r + P * c) ∨ P * 10 = 2 * (r + P * c) ∧ H % 2 = 1) ↔ ((if 48 + (c : Int) = 53 ∧ D + 1 = z then decide ((48 + ((H % 10 : Nat) : Int) - 48) % 2 = 1) else decide (53 ≤ 48 + (c : Int))) = true) := by
    by_cases c5 : c = 5
    · subst c5
      by_cases r0 : r = 0
      · subst r0
        rw [if_pos ⟨by decide, tie.1 rfl⟩, decide_eq_true_eq]
        omega
      · rw [if_neg (fun h => r0 (tie.2 h.2)), decide_eq_true_eq]
        omega
    · rw [if_neg (fun h => c5 (by have := h.1; omega)), decide_eq_true_eq]
      by_cases c6 : 5 < c
      · have : P * 6 ≤ P * c := Nat.mul_le_mul_left P (by omega)
        omega
      · have : P * c ≤ P * 4 := Nat.mul_le_mul_left P (by omega)
        omega
  by_cases k : (P * 10 < 2 * (r + P * c) ∨ P * 10 = 2 * (r + P * c) ∧ H % 2 = 1)
  · rw [if_pos k, if_pos (key.1 k)]
  · rw [if_neg k, if_neg (fun h => k (key.2 h))]
theorem all_nines : ∀ (w n : Nat), (∀ x ∈ dgI w n, x = 57) → n % 10 ^ w + 1 = 10 ^ w
  | 0, n, _ => by simp; omega
  | w + 1, n, h => by
    rw [dgI_succ] at h
    have h1 := all_nines w (n / 10) fun x hx => h x (List.mem_append_left _ hx)
    have h2 := h (48 + ((n % 10 : Nat) : Int)) (List.mem_append_right _ (List.mem_cons_self ..))
    have h3 : n % 10 = 9 := by omega
    rw [Nat.pow_succ, Nat.mul_comm, Nat.mod_mul, h3]
    omega
theorem dgI_nines {w n : Nat} (h : ∀ k, k < w → (dgI w n).getD k 0 = 57) : n % 10 ^ w + 1 = 10 ^ w := by
  apply all_nines
  intro x hx
  obtain ⟨k, hk, rfl⟩ := List.getElem_of_mem hx
  rw [dgI_len] at hk
  have := h k hk
  rw [List.getD, List.getElem?_eq_getElem (by rw [dgI_len]; exact hk)] at this
  exact this
/-- one more: the last digit that is no nine goes up, noughts behind it -/
theorem dgI_inc {D H i : Nat} (hi : i < D) (h1 : (dgI D H).getD i 0 ≠ 57) (h2 : ∀ k, i < k → k < D → (dgI D H).getD k 0 = 57) :
    (∀ k, k < i → (dgI D (H + 1)).getD k 0 = (dgI D H).getD k 0) ∧ (dgI D (H + 1)).getD i 0 = (dgI D H).getD i 0 + 1 ∧ (∀ k, i < k → k < D → (dgI D (H + 1)).getD k 0 = 48) := by
  obtain ⟨e, rfl⟩ : ∃ e, D = i + 1 + e := ⟨D - i - 1, by omega⟩
  have hn : H % 10 ^ e + 1 = 10 ^ e := by
    refine dgI_nines fun k hk => ?_
    have h := h2 (i + 1 + k) (by omega) (by omega)
    rw [dgI_split] at h
    have h3 : (dgI (i + 1) (H / 10 ^ e) ++ dgI e H).getD ((dgI (i + 1) (H / 10 ^ e)).length + k) 0 = (dgI e H).getD k 0 := getD_app_right k
    rw [dgI_len] at h3
    exact h3.symm.trans h
  have p0 : 0 < 10 ^ e := Nat.pow_pos (by decide)
  have hdm := Nat.div_add_mod H (10 ^ e)
  have hS : H + 1 = (H / 10 ^ e + 1) * 10 ^ e := by rw [Nat.add_mul, Nat.one_mul, Nat.mul_comm]; omega
  have hG : (H + 1) / 10 ^ e = H / 10 ^ e + 1 := by rw [hS, Nat.mul_div_cancel _ p0]
  rw [dgI_at _ _ _ (by omega), show i + 1 + e - 1 - i = e by omega] at h1
  have h9 : H / 10 ^ e % 10 ≠ 9 := by omega
  have up : ∀ k, k < i → (H + 1) / 10 ^ (i + 1 + e - 1 - k) = H / 10 ^ (i + 1 + e - 1 - k) := by
    intro k hk
    rw [show i + 1 + e - 1 - k = e + 1 + (i - k - 1) by omega, Nat.pow_add, ← Nat.div_div_eq_div_mul, ← Nat.div_div_eq_div_mul, Nat.pow_succ, ← Nat.div_div_eq_div_mul, ← Nat.div_div_eq_div_mul, hG]
    congr 1
    omega
  refine ⟨fun k hk => ?_, ?_, fun k h3 h4 => ?_⟩
  · rw [dgI_at _ _ _ (by omega), dgI_at _ _ _ (by omega), up k hk]
  · rw [dgI_at _ _ _ (by omega), dgI_at _ _ _ (by omega), show i + 1 + e - 1 - i = e by omega, hG]
    omega
  · rw [dgI_at _ _ _ h4]
    obtain ⟨f, hf⟩ : ∃ f, e = i + 1 + e - 1 - k + 1 + f := ⟨k - i - 1, by omega⟩
    generalize i + 1 + e - 1 - k = g at *
    have : 10 ^ e = 10 ^ g * (10 * 10 ^ f) := by rw [hf, Nat.pow_add, Nat.pow_succ, Nat.mul_assoc]
    rw [hS, this, show (H / (10 ^ g * (10 * 10 ^ f)) + 1) * (10 ^ g * (10 * 10 ^ f)) = 10 ^ g * (10 * ((H / (10 ^ g * (10 * 10 ^ f)) + 1) * 10 ^ f)) by
      rw [Nat.mul_left_comm, Nat.mul_left_comm _ 10], Nat.mul_div_cancel_left _ (Nat.pow_pos (by decide)), Nat.mul_mod_right]
    rfl
end Go.Proofs.YtocnpcjpkieogaaGreatDoor

namespace Go.Proofs.YtocnpcjpkieogaaGreatDoor

/-- the digits, how many count and where the point stands, of a number with nine places -/
def FinD (S : Nat) (L : List Int) (y : Nat) (dp : Int) : Prop :=
  y ≤ wdN S ∧ (∀ k, k < y → L.getD k 0 = (dgI (wdN S) S).getD k 0) ∧ (∀ k, y ≤ k → k < wdN S → (dgI (wdN S) S).getD k 0 = 48) ∧ dp = (wdN S : Int) - 9
/-- a decimal's digits: w of the number Q, z of them up to the last that is no nought -/
structure Dg (L : List Int) (Q w z : Nat) : Prop where
  len : L.length = 800
  zw : z ≤ w
  dig : ∀ j, j < w → L.getD j 0 = (dgI w Q).getD j 0
  noughts : ∀ j, z ≤ j → j < w → L.getD j 0 = 48
  last : L.getD (z - 1) 0 ≠ 48
  lo : 10 ^ (w - 1) ≤ Q
  hi : Q < 10 ^ w
  w1 : 1 ≤ w
theorem Dg.head {L : List Int} {Q w z D : Nat} (h : Dg L Q w z) (hD : 1 ≤ D) (hw : D ≤ w) : 10 ^ (D - 1) ≤ Q / 10 ^ (w - D) ∧ Q / 10 ^ (w - D) < 10 ^ D ∧ ∀ k, k < D → (dgI D (Q / 10 ^ (w - D))).getD k 0 = L.getD k 0 := by
  have p : 0 < 10 ^ (w - D) := Nat.pow_pos (by decide)
  refine ⟨?_, ?_, fun k hk => ?_⟩
  · rw [Nat.le_div_iff_mul_le p, ← Nat.pow_add, show D - 1 + (w - D) = w - 1 by omega]; exact h.lo
  · rw [Nat.div_lt_iff_lt_mul p, ← Nat.pow_add, show D + (w - D) = w by omega]; exact h.hi
  · rw [h.dig k (by omega), dgI_at _ _ _ hk, dgI_at _ _ _ (by omega), Nat.div_div_eq_div_mul, ← Nat.pow_add, show w - D + (D - 1 - k) = w - 1 - k by omega]
theorem wd_of {S D : Nat} (hD : 1 ≤ D) (h1 : 10 ^ (D - 1) ≤ S) (h2 : S < 10 ^ D) : wdN S = D := by
  have := wdN_is (D - 1) S h1 (by rw [show D - 1 + 1 = D by omega]; exact h2)
  omega
/-- nothing to round -/
theorem fin_whole {L : List Int} {X K Q w z D : Nat} {dp : Int} (h : Dg L Q w z) (hK : 0 < K) (hx : X * 10 ^ w = K * Q * 10 ^ D) (hD : 1 ≤ D) (hdp : dp = (D : Int) - 9) (hz : z ≤ D) : FinD (rneD X K) L z dp := by
  by_cases hw : w ≤ D
  · rw [rneD_few hK hx hw]
    have w1 := h.w1
    have p : 0 < 10 ^ (D - w) := Nat.pow_pos (by decide)
    have e : wdN (Q * 10 ^ (D - w)) = D := wd_of hD (by
      rw [show 10 ^ (D - 1) = 10 ^ (w - 1) * 10 ^ (D - w) by rw [← Nat.pow_add]; congr 1; omega]
      exact Nat.mul_le_mul_right _ h.lo) (by
      rw [show 10 ^ D = 10 ^ w * 10 ^ (D - w) by rw [← Nat.pow_add]; congr 1; omega]
      exact Nat.mul_lt_mul_of_pos_right h.hi p)
    unfold FinD
    rw [e]
    have lowd : ∀ k, k < w → (dgI D (Q * 10 ^ (D - w))).getD k 0 = L.getD k 0 := fun k hk => by
      rw [h.dig k hk, dgI_at _ _ _ (by omega), dgI_at _ _ _ hk, show D - 1 - k = (D - w) + (w - 1 - k) by omega, Nat.pow_add, ← Nat.div_div_eq_div_mul, Nat.mul_div_cancel _ p]
    refine ⟨hz, fun k hk => (lowd k (by have := h.zw; omega)).symm, fun k h1 h2 => ?_, hdp⟩
    by_cases hk : k < w
    · rw [lowd k hk]; exact h.noughts k h1 hk
    · rw [dgI_at _ _ _ h2, show 10 ^ (D - w) = 10 ^ (D - 1 - k) * (10 * 10 ^ (k - w)) by
        rw [Nat.mul_comm 10, ← Nat.pow_succ, ← Nat.pow_add]; congr 1; omega, Nat.mul_left_comm, Nat.mul_div_cancel_left _ (Nat.pow_pos (by decide)), Nat.mul_left_comm, Nat.mul_mod_right]
      rfl
  · obtain ⟨a1, a2, a3⟩ := h.head hD (by omega)
    have hr : Q % 10 ^ (w - D) = 0 := by
      refine dgI_noughts fun k hk => ?_
      have h1 := h.noughts (D + k) (by omega) (by omega)
      rw [h.dig _ (by omega), show w = D + (w - D) by omega, dgI_split] at h1
      have h2 : (dgI D (Q / 10 ^ (w - D)) ++ dgI (w - D) Q).getD ((dgI D (Q / 10 ^ (w - D))).length + k) 0 = (dgI (w - D) Q).getD k 0 := getD_app_right k
      rw [dgI_len] at h2
      exact h2.symm.trans h1
    have p : 0 < 10 ^ (w - D) := Nat.pow_pos (by decide)
    have hS : rneD X K = Q / 10 ^ (w - D) := by
      rw [rneD_more hK hx (by omega)]
      unfold rneD
      rw [hr, if_neg (by omega)]
      rfl
    rw [hS]
    unfold FinD
    rw [wd_of hD a1 a2]
    exact ⟨hz, fun k hk => (a3 k (by omega)).symm, fun k h1 h2 => by rw [a3 k h2]; exact h.noughts k h1 (by omega), hdp⟩
theorem fin_down {L : List Int} {X K Q w z D y : Nat} {dp : Int} (h : Dg L Q w z) (hK : 0 < K) (hx : X * 10 ^ w = K * Q * 10 ^ D) (hD : 1 ≤ D) (hdp : dp = (D : Int) - 9) (hz : D < z) (hs : srU L D z = false) (hy : y ≤ D) (hy0 : ∀ k, y ≤ k → k < D → L.getD k 0 = 48) : FinD (rneD X K) L y dp := by
  have hzw := h.zw
  obtain ⟨a1, a2, a3⟩ := h.head hD (by omega)
  have hS : rneD X K = Q / 10 ^ (w - D) := by
    rw [rneD_more hK hx (by omega), srU_is hz h.zw hD h.dig h.noughts h.last, hs, if_neg (by decide)]
    rfl
  rw [hS]
  unfold FinD
  rw [wd_of hD a1 a2]
  exact ⟨hy, fun k hk => (a3 k (by omega)).symm, fun k h1 h2 => by rw [a3 k h2]; exact hy0 k h1 h2, hdp⟩
theorem fin_up {L : List Int} {X K Q w z D i : Nat} {dp : Int} (h : Dg L Q w z) (hK : 0 < K) (hx : X * 10 ^ w = K * Q * 10 ^ D) (hD : 1 ≤ D) (hD2 : D ≤ 100) (hdp : dp = (D : Int) - 9) (hz : D < z) (hs : srU L D z = true) (hi : i < D) (h1 : L.getD i 0 ≠ 57) (h2 : ∀ k, i < k → k < D → L.getD k 0 = 57) : FinD (rneD X K) (L.set i (L.getD i 0 + 1)) (i + 1) dp := by
  have hzw := h.zw
  have hl := h.len
  obtain ⟨a1, a2, a3⟩ := h.head hD (by omega)
  have hS : rneD X K = Q / 10 ^ (w - D) + 1 := by
    rw [rneD_more hK hx (by omega), srU_is hz h.zw hD h.dig h.noughts h.last, hs, if_pos rfl]
  rw [hS]
  obtain ⟨b1, b2, b3⟩ := dgI_inc (H := Q / 10 ^ (w - D)) hi (by rw [a3 i hi]; exact h1) (fun k q1 q2 => by rw [a3 k q2]; exact h2 k q1 q2)
  have lt : Q / 10 ^ (w - D) + 1 < 10 ^ D := by
    clear hS
    rcases Nat.lt_or_ge (Q / 10 ^ (w - D) + 1) (10 ^ D) with q | q
    · exact q
    · exfalso
      apply h1
      have e : Q / 10 ^ (w - D) = 10 ^ D - 1 := Nat.le_antisymm (Nat.le_sub_one_of_lt a2) (Nat.sub_le_of_le_add q)
      have hh := a3 i hi
      rw [dgI_at _ _ _ hi, e] at hh
      rw [← hh]
      have g1 : (10 ^ D - 1) / 10 ^ (D - 1 - i) = 10 ^ (i + 1) - 1 := by
        have p : 0 < 10 ^ (D - 1 - i) := Nat.pow_pos (by decide)
        have p2 : 0 < 10 ^ (i + 1) := Nat.pow_pos (by decide)
        have e2 : 10 ^ D = 10 ^ (i + 1) * 10 ^ (D - 1 - i) := by rw [← Nat.pow_add]; congr 1; omega
        rw [Nat.div_eq_iff p]
        rw [e2, Nat.sub_mul, Nat.one_mul]
        have : 10 ^ (D - 1 - i) ≤ 10 ^ (i + 1) * 10 ^ (D - 1 - i) := Nat.le_mul_of_pos_left _ p2
        omega
      rw [g1, Nat.pow_succ]
      have p3 : 0 < 10 ^ i := Nat.pow_pos (by decide)
      omega
  unfold FinD
  rw [wd_of hD (Nat.le_succ_of_le a1) lt]
  refine ⟨by omega, fun k hk => ?_, fun k q1 q2 => b3 k (by omega) q2, hdp⟩
  by_cases e : k = i
  · rw [e, b2, a3 i hi]
    simp [List.getD, show i < L.length by omega]
  · rw [b1 k (by omega), a3 k (by omega)]
    simp [List.getD, Ne.symm e]
theorem fin_nines {L : List Int} {X K Q w z D : Nat} {dp : Int} (h : Dg L Q w z) (hK : 0 < K) (hx : X * 10 ^ w = K * Q * 10 ^ D) (hD : 1 ≤ D) (hdp : dp = (D : Int) - 9) (hz : D < z) (hs : srU L D z = true) (h2 : ∀ k, k < D → L.getD k 0 = 57) : FinD (rneD X K) (L.set 0 49) 1 (dp + 1) := by
  have hzw := h.zw
  have hl := h.len
  obtain ⟨a1, a2, a3⟩ := h.head hD (by omega)
  have hS : rneD X K = 10 ^ D := by
    rw [rneD_more hK hx (by omega), srU_is hz h.zw hD h.dig h.noughts h.last, hs, if_pos rfl]
    have := dgI_nines (w := D) (n := Q / 10 ^ (w - D)) (fun k hk => by rw [a3 k hk]; exact h2 k hk)
    rw [Nat.mod_eq_of_lt a2] at this
    exact this
  rw [hS]
  unfold FinD
  rw [wd_of (S := 10 ^ D) (D := D + 1) (by omega) (by rw [Nat.add_sub_cancel]; exact Nat.le_refl _) (Nat.pow_lt_pow_right (by decide) (by omega))]
  refine ⟨by omega, fun k hk => ?_, fun k q1 q2 => ?_, by omega⟩
  · obtain rfl : k = 0 := by omega
    rw [dgI_at _ _ _ (by omega), show D + 1 - 1 - 0 = D by omega, Nat.div_self (Nat.pow_pos (by decide))]
    simp [List.getD, show 0 < L.length by omega]
  · rw [dgI_at _ _ _ q2, show 10 ^ D = 10 ^ (D + 1 - 1 - k) * (10 * 10 ^ (k - 1)) by
      rw [Nat.mul_comm 10, ← Nat.pow_succ, ← Nat.pow_add]; congr 1; omega, Nat.mul_div_cancel_left _ (Nat.pow_pos (by decide)), Nat.mul_mod_right]
    rfl
end Go.Proofs.YtocnpcjpkieogaaGreatDoor

namespace Go.Proofs.YtocnpcjpkieogaaGreatDoor
open Go.ChangeShapes Go.WideShapes Go.ChangeAt Go.RowKit

theorem Dg.bounds {L : List Int} {Q w z : Nat} (h : Dg L Q w z) : ∀ k, k < w → 48 ≤ L.getD k 0 ∧ L.getD k 0 ≤ 57 := by
  intro k hk
  rw [h.dig k hk, dgI_at _ _ _ hk]
  omega
theorem Dg.first {L : List Int} {Q w z : Nat} (h : Dg L Q w z) : L.getD 0 0 ≠ 48 := by
  have w1 := h.w1
  rw [h.dig 0 (by omega), dgI_at _ _ _ (by omega), Nat.sub_zero]
  have p : 0 < 10 ^ (w - 1) := Nat.pow_pos (by decide)
  have a1 : 1 ≤ Q / 10 ^ (w - 1) := (Nat.le_div_iff_mul_le p).2 (by rw [Nat.one_mul]; exact h.lo)
  have a2 : Q / 10 ^ (w - 1) < 10 := by
    rw [Nat.div_lt_iff_lt_mul p, Nat.mul_comm, ← Nat.pow_succ, show (w - 1).succ = w by omega]
    exact h.hi
  rw [Nat.mod_eq_of_lt a2]
  generalize Q / 10 ^ (w - 1) = t at *
  omega
set_option maxRecDepth 100000 in
theorem round_fin (w0 u : World) (a D z w Q X K : Nat) (L : List Int) (dp : Int) (hw : w ≤ 800) (hD : 1 ≤ D) (hD2 : D ≤ 100) (hK : 0 < K) (hx : X * 10 ^ w = K * Q * 10 ^ D) (hdp : dp = (D : Int) - 9) (hg : Dg L Q w z) (hz1 : 1 ≤ z) (h : Dc w0 a L (z : Int) dp u) :
    Calls Tryz.prog 82 #[.pointer (some ⟨a, 0, none⟩), .int .i64 (D : Int)] u fun e u' => e = .returned (.tuple #[]) ∧
      ∃ (L' : List Int) (y : Nat) (dp' : Int), 1 ≤ y ∧ FinD (rneD X K) L' y dp' ∧ Dc w0 a L' (y : Int) dp' u' := by
  have hzw := hg.zw
  refine (round_run w0 u a D z L dp (by omega) hD hD2 (by omega) (fun k hk => hg.bounds k (by omega)) hg.first h).mono ?_
  rintro e u' ⟨he, h1 | ⟨h1, h2, h3⟩ | ⟨h1, h2, h3⟩⟩
  · exact ⟨he, L, z, dp, hz1, fin_whole hg hK hx hD hdp h1.1, h1.2⟩
  · rcases h3 with ⟨i, i1, i2, i3, i4⟩ | ⟨i1, i2⟩
    · exact ⟨he, _, i + 1, dp, by omega, fin_up hg hK hx hD hD2 hdp h1 h2 i1 i2 i3, by rw [show ((i + 1 : Nat) : Int) = (i : Int) + 1 by omega]; exact i4⟩
    · exact ⟨he, _, 1, dp + 1, by omega, fin_nines hg hK hx hD hdp h1 h2 i1, i2⟩
  · obtain ⟨y, y1, y2, y3, y4, y5⟩ := h3
    exact ⟨he, L, y, dp, y2, fin_down hg hK hx hD hdp h1 h2 y1 y4, y5⟩
end Go.Proofs.YtocnpcjpkieogaaGreatDoor

namespace Go.Proofs.YtocnpcjpkieogaaGreatDoor

/-- the number that the first r digits write (m has 16 digits; noughts behind them) -/
def Fm (m r : Nat) : Nat := if r ≤ 16 then m / 10 ^ (16 - r) else m * 10 ^ (r - 16)
theorem Fm_16 (m : Nat) : Fm m 16 = m := by unfold Fm; simp
theorem Fm_dig {m r : Nat} (h : r < 16) : Fm m (r + 1) = 10 * Fm m r + m / 10 ^ (15 - r) % 10 := by
  unfold Fm
  rw [if_pos (by omega), if_pos (by omega), show 16 - (r + 1) = 15 - r by omega, show 16 - r = 15 - r + 1 by omega, Nat.pow_succ, ← Nat.div_div_eq_div_mul]
  omega
theorem Fm_ext {m r : Nat} (h : 16 ≤ r) : Fm m (r + 1) = 10 * Fm m r := by
  unfold Fm
  rw [if_neg (by omega)]
  by_cases q : r = 16
  · subst q; simp [Nat.mul_comm]
  · rw [if_neg (by omega), show r + 1 - 16 = r - 16 + 1 by omega, Nat.pow_succ, Nat.mul_comm 10, Nat.mul_assoc]
theorem Fm_div (m r : Nat) : Fm m (r + 1) / 10 = Fm m r := by
  by_cases h : r < 16
  · rw [Fm_dig h]; omega
  · rw [Fm_ext (by omega)]; omega
/-- the next remainder -/
theorem Fm_step {F F' c K : Nat} (hK : 0 < K) (h : F' = 10 * F + c) (hc : c < 10) : 10 * (F % (10 * K) % K) + c = F' % (10 * K) := by
  have e : F % (10 * K) % K = F % K := Nat.mod_mul_left_mod F 10 K
  rw [e, h]
  have h1 := Nat.div_add_mod F K
  have h2 := Nat.mod_lt F hK
  have e2 : 10 * F + c = (10 * (F % K) + c) + 10 * K * (F / K) := by
    have : 10 * K * (F / K) = 10 * (K * (F / K)) := by rw [Nat.mul_assoc]
    omega
  rw [e2, Nat.add_mul_mod_self_left]
  exact (Nat.mod_eq_of_lt (by omega)).symm
/-- the digit put down -/
theorem Fm_digit (F K : Nat) : F % (10 * K) / K = F / K % 10 := by
  rw [Nat.mul_comm, Nat.mod_mul_right_div_self]
/-- the digits put down so far, and one more -/
theorem Fm_grow (m r w K : Nat) : dgI (w + 1) (Fm m (r + 1) / K) = dgI w (Fm m r / K) ++ [48 + ((Fm m (r + 1) / K % 10 : Nat) : Int)] := by
  rw [dgI_succ, Nat.div_div_eq_div_mul, Nat.mul_comm K 10, ← Nat.div_div_eq_div_mul, Fm_div]
/-- no digit but noughts behind the first r -/
def Ex (m r : Nat) : Prop := Fm m r * 10 ^ 16 = m * 10 ^ r
theorem Ex_next {m r : Nat} (h : Ex m r) (e : Fm m (r + 1) = 10 * Fm m r) : Ex m (r + 1) := by
  unfold Ex at *
  rw [e, Nat.mul_assoc, h, Nat.pow_succ, Nat.mul_left_comm, Nat.mul_comm 10]
theorem Ex_16 (m : Nat) : Ex m 16 := by unfold Ex; rw [Fm_16]
/-- at the end nothing is left -/
theorem Fm_end {m r0 w K : Nat} (h0 : r0 ≤ 16) (hw : 1 ≤ w) (hE : Ex m (r0 + w)) (hn : Fm m (r0 + w) % (10 * K) = 0) :
    m * 10 ^ 9 * 10 ^ w = K * (Fm m (r0 + w - 1) / K) * 10 ^ (26 - r0) := by
  have hd : Fm m (r0 + w) = 10 * K * (Fm m (r0 + w - 1) / K) := by
    have h1 := Nat.div_add_mod (Fm m (r0 + w)) (10 * K)
    rw [hn, Nat.add_zero, ← Nat.div_div_eq_div_mul] at h1
    have h2 := Fm_div m (r0 + w - 1)
    rw [show r0 + w - 1 + 1 = r0 + w by omega] at h2
    rw [h2] at h1
    exact h1.symm
  unfold Ex at hE
  generalize Fm m (r0 + w - 1) / K = Q at *
  have p : 0 < 10 ^ r0 := Nat.pow_pos (by decide)
  apply Nat.eq_of_mul_eq_mul_right p
  have l : m * 10 ^ 9 * 10 ^ w * 10 ^ r0 = m * 10 ^ (r0 + w) * 10 ^ 9 := by
    rw [Nat.pow_add, Nat.mul_assoc, Nat.mul_assoc, Nat.mul_assoc, Nat.mul_assoc]
    congr 1
    rw [Nat.mul_comm, Nat.mul_assoc]
    exact Nat.mul_left_comm _ _ _
  rw [l, ← hE, hd, Nat.mul_assoc (K * Q), ← Nat.pow_add, show 26 - r0 + r0 = 26 by omega, Nat.mul_assoc 10, Nat.mul_comm 10, Nat.mul_assoc, Nat.mul_assoc, show 10 * (10 ^ 16 * 10 ^ 9) = 10 ^ 26 by rfl]
end Go.Proofs.YtocnpcjpkieogaaGreatDoor

namespace Go.Proofs.YtocnpcjpkieogaaGreatDoor

/-- the digit at place r of 16; noughts behind them -/
def cdg (m r : Nat) : Nat := if r < 16 then m / 10 ^ (15 - r) % 10 else 0
theorem cdg_lt (m r : Nat) : cdg m r < 10 := by unfold cdg; split <;> omega
theorem Fm_all (m r : Nat) : Fm m (r + 1) = 10 * Fm m r + cdg m r := by
  unfold cdg
  by_cases h : r < 16
  · rw [if_pos h]; exact Fm_dig h
  · rw [if_neg h]; exact Fm_ext (by omega)
theorem cdg_at {m r : Nat} (h : r < 16) : (dgI 16 m).getD r 0 = 48 + ((cdg m r : Nat) : Int) := by
  rw [dgI_at 16 m r h]
  unfold cdg
  rw [if_pos h, show 16 - 1 - r = 15 - r by omega]
theorem ex_all {m z : Nat} (h : ∀ r, z ≤ r → r < 16 → cdg m r = 0) : ∀ r, z ≤ r → Ex m r := by
  have up : ∀ d, Ex m (16 + d) := by
    intro d
    induction d with
    | zero => exact Ex_16 m
    | succ d ih => exact Ex_next (r := 16 + d) ih (Fm_ext (r := 16 + d) (Nat.le_add_right _ _))
  have down : ∀ d r, r + d = 16 → z ≤ r → Ex m r := by
    intro d
    induction d with
    | zero => intro r hr _; rw [show r = 16 by omega]; exact Ex_16 m
    | succ d ih =>
      intro r hr hz
      have k := ih (r + 1) (by omega) (by omega)
      unfold Ex at k ⊢
      rw [Fm_all, h r hz (by omega), Nat.add_zero] at k
      have e : 10 * (Fm m r * 10 ^ 16) = 10 * (m * 10 ^ r) := by
        rw [← Nat.mul_assoc, k, Nat.pow_succ, Nat.mul_comm 10, Nat.mul_assoc]
      exact Nat.eq_of_mul_eq_mul_left (by decide) e
  intro r hz
  by_cases q : r ≤ 16
  · exact down (16 - r) r (by omega) hz
  · have := up (r - 16)
    rw [show 16 + (r - 16) = r by omega] at this
    exact this
theorem Fm_mono (m r : Nat) : Fm m r ≤ Fm m (r + 1) := by rw [Fm_all]; omega
theorem Fm_0 {m : Nat} (h : m < 10 ^ 16) : Fm m 0 = 0 := by
  unfold Fm
  rw [if_pos (by omega)]
  exact Nat.div_eq_of_lt h
/-- the remainder's step -/
theorem Fm_rem {m r K : Nat} (hK : 0 < K) : 10 * (Fm m r % (10 * K) % K) + cdg m r = Fm m (r + 1) % (10 * K) :=
  Fm_step hK (Fm_all m r) (cdg_lt m r)
/-- the digits put down so far -/
def Put (m r0 K w : Nat) (L : List Int) : Prop := ∀ j, j < w → L.getD j 0 = (dgI w (Fm m (r0 + w - 1) / K)).getD j 0
theorem Put_next {m r0 K w : Nat} {L : List Int} (h0 : 1 ≤ r0) (hl : L.length = 800) (hw : w < 800) (h : Put m r0 K w L) : Put m r0 K (w + 1) (L.set w (48 + ((Fm m (r0 + w) / K % 10 : Nat) : Int))) := by
  intro j hj
  rw [show r0 + (w + 1) - 1 = r0 + w by omega]
  have g := Fm_grow m (r0 + w - 1) w K
  rw [show r0 + w - 1 + 1 = r0 + w by omega] at g
  rw [g]
  have hd := dgI_len w (Fm m (r0 + w - 1) / K)
  by_cases e : j = w
  · subst e
    simp [List.getD, hl, hw, hd]
  · have := h j (by omega)
    rw [show (L.set w (48 + ((Fm m (r0 + w) / K % 10 : Nat) : Int))).getD j 0 = L.getD j 0 by simp [List.getD, Ne.symm e], this]
    simp [List.getD, List.getElem?_append_left (show j < (dgI w (Fm m (r0 + w - 1) / K)).length by omega)]
/-- how many digits -/
theorem Fm_big {m r0 K : Nat} (hK : 0 < K) (h0 : 1 ≤ r0) (h1 : K ≤ Fm m r0) (h2 : Fm m (r0 - 1) < K) : ∀ w, 10 ^ w ≤ Fm m (r0 + w) / K ∧ Fm m (r0 + w) / K < 10 ^ (w + 1) := by
  have base : Fm m r0 < 10 * K := by
    have := Fm_all m (r0 - 1)
    rw [show r0 - 1 + 1 = r0 by omega] at this
    have := cdg_lt m (r0 - 1)
    omega
  intro w
  induction w with
  | zero =>
    rw [Nat.add_zero, Nat.pow_zero]
    exact ⟨(Nat.le_div_iff_mul_le hK).2 (by omega), (Nat.div_lt_iff_lt_mul hK).2 (by omega)⟩
  | succ w ih =>
    have a := Fm_all m (r0 + w)
    have c := cdg_lt m (r0 + w)
    rw [Nat.le_div_iff_mul_le hK, Nat.div_lt_iff_lt_mul hK] at ih
    rw [show r0 + (w + 1) = r0 + w + 1 by omega, a, Nat.le_div_iff_mul_le hK, Nat.div_lt_iff_lt_mul hK, Nat.pow_succ 10 (w + 1), Nat.pow_succ 10 w]
    obtain ⟨i1, i2⟩ := ih
    rw [Nat.pow_succ] at i2
    have e1 : 10 ^ w * 10 * K = 10 * (10 ^ w * K) := by rw [Nat.mul_right_comm, Nat.mul_comm]
    have e2 : 10 ^ w * 10 * 10 * K = 10 * (10 ^ w * 10 * K) := by rw [Nat.mul_right_comm, Nat.mul_comm]
    rw [e1, e2]
    rw [e1] at i2
    have i2' : Fm m (r0 + w) + 1 ≤ 10 * (10 ^ w * K) := i2
    omega
/-- behind 16 + 25 digits nothing is left -/
theorem Fm_done {m K k r : Nat} (hK : K = 2 ^ k) (hk : k ≤ 24) (hr : 41 ≤ r) : Fm m r % (10 * K) = 0 := by
  unfold Fm
  rw [if_neg (by omega)]
  apply Nat.mod_eq_zero_of_dvd
  refine Nat.dvd_trans ?_ (Nat.dvd_mul_left _ _)
  have : 10 * K ∣ 10 ^ 25 := by
    rw [hK, show (10 : Nat) ^ 25 = 10 * (2 ^ 24 * 5 ^ 24) by decide]
    refine Nat.mul_dvd_mul_left 10 (Nat.dvd_trans (Nat.pow_dvd_pow 2 hk) (Nat.dvd_mul_right _ _))
  exact Nat.dvd_trans this (Nat.pow_dvd_pow 10 (by omega))
end Go.Proofs.YtocnpcjpkieogaaGreatDoor
