/- Proved here: what the texts Sadd, Sun, Ssq, Smu, Sdv, Sin, Spm, Spo, Sps, Spn, Mm, Ssqs prove, one behind the other. -/
import Derived.Test.YtgnofnjbmiepjaaJb2
import Derived.BigQuiet
import Derived.Deep.RegionHeld
import Derived.Deep.CutRange
import Derived.Deep.RegionHeld3

namespace Go.Proofs.Ytgnofnjbmiepjaa
open Go.ChangeShapes Go.WideShapes Go.ChangeAt Go.RowKit Ieee.Own

theorem errS_zero {a b : Nat} (h : errS a b = 0) : fitB a = true ∧ fitB b = true ∧ V a ≤ V b := by
  unfold errS at h
  by_cases c : fitB a = true ∧ fitB b = true
  · rw [if_pos c] at h
    by_cases d : V b < V a
    · rw [if_pos d] at h; omega
    · exact ⟨c.1, c.2, by omega⟩
  · rw [if_neg c] at h; omega
theorem errSS_zero {a1 a2 b1 b2 : Nat} (h : errSS a1 a2 b1 b2 = 0) : errS a1 a2 = 0 ∧ errS b1 b2 = 0 := by
  unfold errSS at h
  by_cases c : errS a1 a2 = 0
  · rw [if_neg (by simpa using c)] at h; exact ⟨c, h⟩
  · rw [if_pos c] at h; exact absurd h c
/-- what an operation on spans is to answer: an error, or the ends next to the exact ones, outwards -/
def OpIs (er : Int) (c d : Int → Int) (e : Ending) : Prop := (er = 0 → ∃ lo hi, e = .returned (toldE lo hi) ∧ Dn c lo ∧ Up d hi) ∧ (er ≠ 0 → e = .returned (spanE 0 0 er))
def zeroO : Obj := .cells #[.float .f64 0, .float .f64 0] 38 (0, 0)
end Go.Proofs.Ytgnofnjbmiepjaa

namespace Go.Proofs.Ytgnofnjbmiepjaa
open Go.ChangeShapes Go.WideShapes Go.ChangeAt Go.RowKit Ieee.Own

/-! ### Neg -/
/-! ### Root -/
def errR (a b : Nat) : Int := if errS a b ≠ 0 then errS a b else if V a < 0 then 6 else 0
/-! ### Sub -/
theorem errSS_of {a1 a2 b1 b2 : Nat} (h : errS a1 a2 = 0) (k : errS b1 b2 = 0) : errSS a1 a2 b1 b2 = 0 := by unfold errSS; rw [if_neg (by simpa using h), k]
/-! ### Square -/
end Go.Proofs.Ytgnofnjbmiepjaa

namespace Go.Proofs.Ytgnofnjbmiepjaa
open Go.ChangeShapes Go.WideShapes Go.ChangeAt Go.RowKit Ieee.Own

/-! ### ends over several exact results -/
structure DnAll (cs : List (Int → Int)) (w : Nat) : Prop where
  fin : FinW w
  le : ∀ c ∈ cs, 0 ≤ c (V w)
  top : ∀ u, FinW u → (∀ c ∈ cs, 0 ≤ c (V u)) → V u ≤ V w
structure UpAll (cs : List (Int → Int)) (w : Nat) : Prop where
  fin : FinW w
  ge : ∀ c ∈ cs, c (V w) ≤ 0
  low : ∀ u, FinW u → (∀ c ∈ cs, c (V u) ≤ 0) → V w ≤ V u
def Falls (c : Int → Int) : Prop := ∀ u v, u ≤ v → c v ≤ c u
theorem Dn.all {c : Int → Int} {w : Nat} (h : Dn c w) : DnAll [c] w :=
  ⟨h.fin, fun d hd => by rw [List.mem_singleton.1 hd]; exact h.le, fun u hu hc => h.top u hu (hc c (List.mem_singleton.2 rfl))⟩
theorem Up.all {c : Int → Int} {w : Nat} (h : Up c w) : UpAll [c] w :=
  ⟨h.fin, fun d hd => by rw [List.mem_singleton.1 hd]; exact h.ge, fun u hu hc => h.low u hu (hc c (List.mem_singleton.2 rfl))⟩
def minW (y x : Nat) : Nat := if V y < V x then y else x
def maxW (y x : Nat) : Nat := if V x < V y then y else x
theorem minW_V (y x : Nat) : V (minW y x) ≤ V x ∧ V (minW y x) ≤ V y ∧ (V (minW y x) = V x ∨ V (minW y x) = V y) := by unfold minW; split <;> omega
theorem maxW_V (y x : Nat) : V x ≤ V (maxW y x) ∧ V y ≤ V (maxW y x) ∧ (V (maxW y x) = V x ∨ V (maxW y x) = V y) := by unfold maxW; split <;> omega
theorem DnAll.more {cs : List (Int → Int)} {c : Int → Int} {x y : Nat} (h : DnAll cs x) (k : Dn c y) (hcs : ∀ d ∈ cs, Falls d) (hc : Falls c) : DnAll (cs ++ [c]) (minW y x) := by
  obtain ⟨m1, m2, m3⟩ := minW_V y x
  refine ⟨by unfold minW; split; exact k.fin; exact h.fin, fun d hd => ?_, fun u hu hall => ?_⟩
  · rcases List.mem_append.1 hd with hd | hd
    · exact Int.le_trans (h.le d hd) (hcs d hd _ _ m1)
    · rw [List.mem_singleton.1 hd]; exact Int.le_trans k.le (hc _ _ m2)
  · have a := h.top u hu fun d hd => hall d (List.mem_append_left _ hd)
    have b := k.top u hu (hall c (List.mem_append_right _ (List.mem_singleton.2 rfl)))
    omega
theorem UpAll.more {cs : List (Int → Int)} {c : Int → Int} {x y : Nat} (h : UpAll cs x) (k : Up c y) (hcs : ∀ d ∈ cs, Falls d) (hc : Falls c) : UpAll (cs ++ [c]) (maxW y x) := by
  obtain ⟨m1, m2, m3⟩ := maxW_V y x
  refine ⟨by unfold maxW; split; exact k.fin; exact h.fin, fun d hd => ?_, fun u hu hall => ?_⟩
  · rcases List.mem_append.1 hd with hd | hd
    · exact Int.le_trans (hcs d hd _ _ m1) (h.ge d hd)
    · rw [List.mem_singleton.1 hd]; exact Int.le_trans (hc _ _ m2) k.ge
  · have a := h.low u hu fun d hd => hall d (List.mem_append_left _ hd)
    have b := k.low u hu (hall c (List.mem_append_right _ (List.mem_singleton.2 rfl)))
    omega
theorem DnAll.uniq {cs : List (Int → Int)} {w x : Nat} (h : DnAll cs w) (k : DnAll cs x) : V w = V x := by
  have := h.top x k.fin k.le
  have := k.top w h.fin h.le
  omega
theorem UpAll.uniq {cs : List (Int → Int)} {w x : Nat} (h : UpAll cs w) (k : UpAll cs x) : V w = V x := by
  have := h.low x k.fin k.ge
  have := k.low w h.fin h.ge
  omega
theorem falls_sub (z : Int) : Falls (fun v => z - v) := fun u v h => by show z - v ≤ z - u; omega
def OpAll (er : Int) (cs ds : List (Int → Int)) (e : Ending) : Prop := (er = 0 → ∃ lo hi, e = .returned (toldE lo hi) ∧ DnAll cs lo ∧ UpAll ds hi) ∧ (er ≠ 0 → e = .returned (spanE 0 0 er))

/-! ### products -/
def prodN (a b : Nat) : Int := V a * V b / 2 ^ 1074
theorem prodN_of {a b p e : Nat} {N : Int} (R : ProdRes a b p e N) : prodN a b = N := by
  unfold prodN
  rw [R.ex]
  exact Int.mul_ediv_cancel _ (Int.ne_of_gt (Int.pow_pos (by omega)))
def prodC (a b : Nat) (v : Int) : Int := prodN a b - v
/-! ### Square -/
def sqLo (a b : Nat) : List (Int → Int) := if 0 ≤ V a then [prodC a a] else if V b ≤ 0 then [prodC b b] else [fun v => 0 - v]
def sqHi (a b : Nat) : List (Int → Int) := if 0 ≤ V a then [prodC b b] else if V b ≤ 0 then [prodC a a] else [prodC a a, prodC b b]
end Go.Proofs.Ytgnofnjbmiepjaa

namespace Go.Proofs.Ytgnofnjbmiepjaa
open Go.ChangeShapes Go.WideShapes Go.ChangeAt Go.RowKit Ieee.Own

/-! ### the four corners -/
/-- a world that is another but for draws -/
def Drawn (w w' : World) : Prop := ∃ m, w' = w.drewN m
theorem Drawn.refl (w : World) : Drawn w w := ⟨0, rfl⟩
theorem Drawn.more {w w' : World} (h : Drawn w w') (n : Nat) : Drawn w (w'.drewN n) := by
  obtain ⟨m, rfl⟩ := h; exact ⟨m + n, by rw [World.drewN_drewN]⟩
theorem Drawn.below {w w' : World} (d : Drawn w w') (B : Nat) : Below B w w' := by
  obtain ⟨m, rfl⟩ := d; exact ⟨rfl, rfl, rfl, Nat.le_refl _, fun _ _ => rfl⟩
theorem Drawn.cell {w w' : World} (d : Drawn w w') (a : Addr) : w'.cell? a = w.cell? a := by obtain ⟨m, rfl⟩ := d; rfl
def cornersL (X Y : List Nat) : List (Int → Int) := List.zipWith prodC X Y
/-- what the loop over the corners has found behind i of them -/
def MulAt (cs : List (Int → Int)) (i lo hi : Nat) : Prop := 0 < i → DnAll (cs.take i) lo ∧ UpAll (cs.take i) hi
theorem falls_corners {X Y : List Nat} : ∀ d ∈ cornersL X Y, Falls d := by
  intro d hd
  unfold cornersL at hd
  obtain ⟨i, hi, rfl⟩ := List.mem_iff_getElem.1 hd
  rw [List.getElem_zipWith]
  exact falls_sub _
theorem corners_succ {X Y : List Nat} {i : Nat} (hX : i < X.length) (hY : i < Y.length) : (cornersL X Y).take (i + 1) = (cornersL X Y).take i ++ [prodC (X.getD i 0) (Y.getD i 0)] := by
  have h : i < (cornersL X Y).length := by unfold cornersL; simp; omega
  rw [List.take_add_one, List.getElem?_eq_getElem h]
  unfold cornersL
  simp [List.getD, hX, hY]
  exact List.getElem_zipWith
theorem MulAt.one {X Y : List Nat} {d u : Nat} (hX : 0 < X.length) (hY : 0 < Y.length) (hd : Dn (prodC (X.getD 0 0) (Y.getD 0 0)) d) (hu : Up (prodC (X.getD 0 0) (Y.getD 0 0)) u) : MulAt (cornersL X Y) (0 + 1) d u := by
  intro _
  rw [corners_succ hX hY]
  exact ⟨hd.all, hu.all⟩
theorem MulAt.next {X Y : List Nat} {i lo hi d u : Nat} (h : MulAt (cornersL X Y) i lo hi) (h0 : 0 < i) (hX : i < X.length) (hY : i < Y.length) (hd : Dn (prodC (X.getD i 0) (Y.getD i 0)) d) (hu : Up (prodC (X.getD i 0) (Y.getD i 0)) u) :
    MulAt (cornersL X Y) (i + 1) (minW d lo) (maxW u hi) := by
  intro _
  rw [corners_succ hX hY]
  obtain ⟨a, b⟩ := h h0
  have hf : ∀ c ∈ (cornersL X Y).take i, Falls c := fun c hc => falls_corners c (List.mem_of_mem_take hc)
  exact ⟨a.more hd hf (falls_sub _), b.more hu hf (falls_sub _)⟩

end Go.Proofs.Ytgnofnjbmiepjaa

namespace Go.Proofs.Ytgnofnjbmiepjaa
open Go.ChangeShapes Go.WideShapes Go.ChangeAt Go.RowKit Ieee.Own

def errD (a1 a2 b1 b2 : Nat) : Int := if errSS a1 a2 b1 b2 ≠ 0 then errSS a1 a2 b1 b2 else if V b1 ≤ 0 ∧ 0 ≤ V b2 then 4 else 0
end Go.Proofs.Ytgnofnjbmiepjaa

namespace Go.Proofs.Ytgnofnjbmiepjaa
open Go.ChangeShapes Go.WideShapes Go.ChangeAt Go.RowKit Ieee.Own

/-- does all of the one span lie in the other? -/
def insB (a b c d : Nat) : Bool := decide (errSS a b c d = 0 ∧ V c ≤ V a ∧ V b ≤ V d)
end Go.Proofs.Ytgnofnjbmiepjaa

namespace Go.Proofs.Ytgnofnjbmiepjaa
open Go.ChangeShapes Go.WideShapes Go.ChangeAt Go.RowKit Ieee.Own

theorem OpAll.uniq {er : Int} {cs ds : List (Int → Int)} {e e' : Ending} (h : OpAll er cs ds e) (k : OpAll er cs ds e') : e = e' := by
  by_cases h0 : er = 0
  · obtain ⟨a, b, rfl, h1, h2⟩ := h.1 h0
    obtain ⟨c, d, rfl, k1, k2⟩ := k.1 h0
    rw [toldE_congr h1.fin k1.fin h2.fin k2.fin (h1.uniq k1) (h2.uniq k2)]
  · rw [h.2 h0, k.2 h0]
theorem OpIs.all {er : Int} {c d : Int → Int} {e : Ending} (h : OpIs er c d e) : OpAll er [c] [d] e :=
  ⟨fun h0 => by obtain ⟨a, b, e, h1, h2⟩ := h.1 h0; exact ⟨a, b, e, h1.all, h2.all⟩, h.2⟩
/-! ### outwards -/
theorem lowW_le (x : Nat) : V (lowW x) ≤ V x := by
  unfold lowW
  by_cases c1 : 0 ≤ V x ∧ V x < leastV
  · rw [if_pos c1, V_zero]; omega
  · rw [if_neg c1]
    by_cases c2 : V x < 0 ∧ -leastV < V x
    · rw [if_pos c2, nleast_V]; omega
    · rw [if_neg c2]; omega
theorem least_V : V 3706462493325918208 = leastV := rfl
theorem highW_ge (x : Nat) : V x ≤ V (highW x) := by
  unfold highW
  by_cases c1 : V x ≤ 0 ∧ -leastV < V x
  · rw [if_pos c1, V_zero]; omega
  · rw [if_neg c1]
    by_cases c2 : 0 < V x ∧ V x < leastV
    · rw [if_pos c2, least_V]; omega
    · rw [if_neg c2]; omega
/-- greater numbers, greater ends -/
theorem lowW_mono {x y : Nat} (h : V x ≤ V y) : V (lowW x) ≤ V (lowW y) := by
  have p := leastV_pos
  unfold lowW
  by_cases a1 : 0 ≤ V x ∧ V x < leastV <;> by_cases b1 : 0 ≤ V y ∧ V y < leastV
  · rw [if_pos a1, if_pos b1]; omega
  · rw [if_pos a1, if_neg b1, if_neg (by omega), V_zero]; omega
  · rw [if_neg a1, if_pos b1]
    by_cases a2 : V x < 0 ∧ -leastV < V x
    · rw [if_pos a2, nleast_V, V_zero]; omega
    · rw [if_neg a2, V_zero]; omega
  · rw [if_neg a1, if_neg b1]
    by_cases a2 : V x < 0 ∧ -leastV < V x <;> by_cases b2 : V y < 0 ∧ -leastV < V y
    · rw [if_pos a2, if_pos b2]; omega
    · rw [if_pos a2, if_neg b2, nleast_V]; omega
    · rw [if_neg a2, if_pos b2, nleast_V]; omega
    · rw [if_neg a2, if_neg b2]; omega
theorem highW_mono {x y : Nat} (h : V x ≤ V y) : V (highW x) ≤ V (highW y) := by
  have p := leastV_pos
  unfold highW
  by_cases a1 : V x ≤ 0 ∧ -leastV < V x <;> by_cases b1 : V y ≤ 0 ∧ -leastV < V y
  · rw [if_pos a1, if_pos b1]; omega
  · rw [if_pos a1, if_neg b1]
    by_cases b2 : 0 < V y ∧ V y < leastV
    · rw [if_pos b2, least_V, V_zero]; omega
    · rw [if_neg b2, V_zero]; omega
  · rw [if_neg a1, if_pos b1, if_neg (by omega), V_zero]; omega
  · rw [if_neg a1, if_neg b1]
    by_cases a2 : 0 < V x ∧ V x < leastV <;> by_cases b2 : 0 < V y ∧ V y < leastV
    · rw [if_pos a2, if_pos b2]; omega
    · rw [if_pos a2, if_neg b2, least_V]; omega
    · rw [if_neg a2, if_pos b2, least_V]; omega
    · rw [if_neg a2, if_neg b2]; omega

/-- harder to lie below, lower ends -/
theorem DnAll.mono {cs ds : List (Int → Int)} {w x : Nat} (h : DnAll cs w) (k : DnAll ds x) (hcd : ∀ u, (∀ c ∈ cs, 0 ≤ c u) → ∀ d ∈ ds, 0 ≤ d u) : V w ≤ V x := k.top w h.fin (hcd _ h.le)
theorem UpAll.mono {cs ds : List (Int → Int)} {w x : Nat} (h : UpAll cs w) (k : UpAll ds x) (hcd : ∀ u, (∀ c ∈ cs, c u ≤ 0) → ∀ d ∈ ds, d u ≤ 0) : V x ≤ V w := k.low w h.fin (hcd _ h.ge)
end Go.Proofs.Ytgnofnjbmiepjaa

namespace Go.Proofs.Ytgnofnjbmiepjaa
open Go.ChangeShapes Go.WideShapes Go.ChangeAt Go.RowKit Ieee.Own

/-! ### results that lie in a block -/
theorem results_cell1 {fn : Func} {p : Tmp} {ty : TypeId} (h : fn.results = #[.cell p ty]) (tmps : Array Value) (P : Program) (w : World) :
    (results fn tmps).run P w = ((asAddr (tmps.getD p undef)).run P w).andThen fun a w₁ => (loadVar ty a).run P w₁ := by
  simp only [results, h]
  simp [Sem.run_bind, Result.andThen]
/-! ### Check -/
/-! ### ends, brought outwards -/
/-- noughts are +0 -/
def posW (x : Nat) : Nat := if x = 9223372036854775808 then 0 else x
theorem posW_V (x : Nat) : V (posW x) = V x := by
  unfold posW; split
  · rename_i h; rw [h]; decide +kernel
  · rfl
theorem posW_fin {x : Nat} (h : FinW x) : FinW (posW x) := by
  unfold posW; split
  · exact zero_fin
  · exact h
theorem V_zero_iff {x : Nat} (h : FinW x) : V x = 0 ↔ x % 9223372036854775808 = 0 := by
  have := V_abs' x h
  have := val_zero_iff 52 (x % 9223372036854775808)
  omega
theorem fit_iff {x : Nat} (h : FinW x) : fitB x = true ↔ V x = 0 ∨ leastV ≤ ((V x).natAbs : Int) ∧ ((V x).natAbs : Int) ≤ mostV := by
  have a := V_abs' x h
  have z := V_zero_iff h
  have e1 : leastV = (val 52 3706462493325918208 : Int) := by decide +kernel
  have e2 : mostV = (val 52 5507902344274116608 : Int) := by decide +kernel
  have c1 := val_lt_iff 52 (x % 9223372036854775808) 3706462493325918208
  have c2 := val_lt_iff 52 5507902344274116608 (x % 9223372036854775808)
  unfold fitB
  rw [decide_eq_true_eq, z, a, e1, e2]
  omega
theorem lowW_out (x : Nat) : V (lowW x) = 0 ∨ leastV ≤ ((V (lowW x)).natAbs : Int) := by
  have p := leastV_pos
  unfold lowW
  by_cases c1 : 0 ≤ V x ∧ V x < leastV
  · rw [if_pos c1, V_zero]; omega
  · rw [if_neg c1]
    by_cases c2 : V x < 0 ∧ -leastV < V x
    · rw [if_pos c2, nleast_V]; omega
    · rw [if_neg c2]; omega
theorem highW_out (x : Nat) : V (highW x) = 0 ∨ leastV ≤ ((V (highW x)).natAbs : Int) := by
  have p := leastV_pos
  unfold highW
  by_cases c1 : V x ≤ 0 ∧ -leastV < V x
  · rw [if_pos c1, V_zero]; omega
  · rw [if_neg c1]
    by_cases c2 : 0 < V x ∧ V x < leastV
    · rw [if_pos c2, least_V]; omega
    · rw [if_neg c2]; omega
/-! ### Make, outwards -/
/-! ### about -/
end Go.Proofs.Ytgnofnjbmiepjaa

namespace Go.Proofs.Ytgnofnjbmiepjaa
open Go.ChangeShapes Go.WideShapes Go.ChangeAt Go.RowKit Ieee.Own

end Go.Proofs.Ytgnofnjbmiepjaa

namespace Go.Proofs.Ytgnofnjbmiepjaa
open Go.ChangeShapes Go.WideShapes Go.ChangeAt Go.RowKit Ieee.Own

theorem Blocks.drew {w wr : World} {os : List Obj} (S : Blocks w os wr) : Blocks w os wr.drew := ⟨S.old.drew, S.more, S.at_⟩
/-! ### Neg -/
/-! ### Root -/
theorem root_le {a b : Nat} {x y : Int} (h2 : V a ≤ V b) (hx : 0 ≤ rootC a x) (hy : rootC b y ≤ 0) : x ≤ y := by
  unfold rootC at hx hy
  have hy0 : ¬ y < 0 := fun c => by rw [if_pos c] at hy; omega
  rw [if_neg hy0] at hy
  by_cases c : x < 0
  · omega
  · rw [if_neg c] at hx
    refine Int.not_lt.1 fun hlt => ?_
    have h3 := Int.mul_le_mul_of_nonneg_right h2 (show (0 : Int) ≤ 2 ^ 1074 from Int.le_of_lt (Int.pow_pos (by omega)))
    have h4 : y * y < x * x := by
      have a1 := Int.mul_le_mul_of_nonneg_left (Int.le_of_lt hlt) (show 0 ≤ y by omega)
      have a2 := Int.mul_lt_mul_of_pos_right hlt (show 0 < x by omega)
      omega
    generalize V a * 2 ^ 1074 = u at *
    generalize V b * 2 ^ 1074 = v at *
    omega
/-! ### Add, Sub -/
end Go.Proofs.Ytgnofnjbmiepjaa

namespace Go.Proofs.Ytgnofnjbmiepjaa
open Go.ChangeShapes Go.WideShapes Go.ChangeAt Go.RowKit Ieee.Own

def mxW (x y : Nat) : Nat := match FloatKind.f64.format.order x y with
  | some .lt => y
  | some .gt => x
  | _ => if (FloatKind.f64.decode x).neg then y else x
def mnW (x y : Nat) : Nat := match FloatKind.f64.format.order x y with
  | some .lt => x
  | some .gt => y
  | _ => if (FloatKind.f64.decode x).neg then x else y
theorem order_some {x y : Nat} (hx : FinW x) (hy : FinW y) : ∃ o, FloatKind.f64.format.order x y = some o := ⟨_, order64 x y hx.1 hy.1 (fin_nn hx) (fin_nn hy)⟩
theorem order_V {x y : Nat} (hx : FinW x) (hy : FinW y) : (FloatKind.f64.format.order x y = some .lt ↔ V x < V y) ∧ (FloatKind.f64.format.order x y = some .gt ↔ V y < V x) := by
  have a := lt_words hx hy
  have b := gt_words hx hy
  constructor
  · constructor
    · intro h; rw [h] at a; exact of_decide_eq_true (a.symm.trans rfl)
    · intro h; rw [decide_eq_true h] at a; exact eq_of_beq a
  · constructor
    · intro h; rw [h] at b; exact of_decide_eq_true (b.symm.trans rfl)
    · intro h; rw [decide_eq_true h] at b; exact eq_of_beq b
theorem mxW_spec {x y : Nat} (hx : FinW x) (hy : FinW y) : (mxW x y = x ∨ mxW x y = y) ∧ V x ≤ V (mxW x y) ∧ V y ≤ V (mxW x y) := by
  obtain ⟨o, h⟩ := order_some hx hy
  obtain ⟨a, b⟩ := order_V hx hy
  unfold mxW
  rw [h] at a b ⊢
  cases o with
  | lt => have := a.1 rfl; exact ⟨Or.inr rfl, by show V x ≤ V y; omega, Int.le_refl _⟩
  | gt => have := b.1 rfl; exact ⟨Or.inl rfl, Int.le_refl _, by show V y ≤ V x; omega⟩
  | eq =>
    have n1 : ¬ V x < V y := fun h => by have := a.2 h; simp at this
    have n2 : ¬ V y < V x := fun h => by have := b.2 h; simp at this
    show ((if _ then y else x) = x ∨ (if _ then y else x) = y) ∧ V x ≤ V (if _ then y else x) ∧ V y ≤ V (if _ then y else x)
    split
    · exact ⟨Or.inr rfl, by omega, by omega⟩
    · exact ⟨Or.inl rfl, by omega, by omega⟩
theorem mnW_spec {x y : Nat} (hx : FinW x) (hy : FinW y) : (mnW x y = x ∨ mnW x y = y) ∧ V (mnW x y) ≤ V x ∧ V (mnW x y) ≤ V y := by
  obtain ⟨o, h⟩ := order_some hx hy
  obtain ⟨a, b⟩ := order_V hx hy
  unfold mnW
  rw [h] at a b ⊢
  cases o with
  | lt => have := a.1 rfl; exact ⟨Or.inl rfl, Int.le_refl _, by show V x ≤ V y; omega⟩
  | gt => have := b.1 rfl; exact ⟨Or.inr rfl, by show V y ≤ V x; omega, Int.le_refl _⟩
  | eq =>
    have n1 : ¬ V x < V y := fun h => by have := a.2 h; simp at this
    have n2 : ¬ V y < V x := fun h => by have := b.2 h; simp at this
    show ((if _ then x else y) = x ∨ (if _ then x else y) = y) ∧ V (if _ then x else y) ≤ V x ∧ V (if _ then x else y) ≤ V y
    split
    · exact ⟨Or.inl rfl, by omega, by omega⟩
    · exact ⟨Or.inr rfl, by omega, by omega⟩
theorem mxW_fin {x y : Nat} (hx : FinW x) (hy : FinW y) : FinW (mxW x y) := by
  rcases (mxW_spec hx hy).1 with h | h <;> rw [h] <;> assumption
theorem mnW_fin {x y : Nat} (hx : FinW x) (hy : FinW y) : FinW (mnW x y) := by
  rcases (mnW_spec hx hy).1 with h | h <;> rw [h] <;> assumption
section
variable {P : Program} {x y z u : Nat} (hx : FinW x) (hy : FinW y) (hz : FinW z) (hu : FinW u) (ts : Array TypeId) (t : TypeId) (w : World)
include hx hy
include hz
include hu
end
end Go.Proofs.Ytgnofnjbmiepjaa

namespace Go.Proofs.Ytgnofnjbmiepjaa
open Go.ChangeShapes Go.WideShapes Go.ChangeAt Go.RowKit Ieee.Own

theorem prodN_le {a b c d : Nat} (h : V a * V b ≤ V c * V d) : prodN a b ≤ prodN c d := by
  unfold prodN
  exact Int.ediv_le_ediv (Int.pow_pos (by omega)) h
theorem sq_le {x y : Int} (h0 : 0 ≤ x) (h : x ≤ y) : x * x ≤ y * y := Int.mul_le_mul h h h0 (by omega)
end Go.Proofs.Ytgnofnjbmiepjaa
