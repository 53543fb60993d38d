/- Proved here: long sums as values and in variables, beside spans in variables: what calls, allocations and stores leave of them. -/
import Derived.Test.YtkfagpahbojigaaCls
import Derived.Test.YtkfagpahbojigaaAccRm
import Derived.Deep.MidRow
import Derived.Deep.WholeRow
import Derived.Laws.IdiomCopy
namespace Ieee.Own
theorem two_succ' {a b : Nat} (h : a = b + 1) : 2 ^ a = 2 * 2 ^ b := by subst h; exact two_succ b
/-- the number that the words tell, where it is small enough -/
theorem told {ws : Nat → Nat} (hw : ∀ i, ws i < 18446744073709551616) {z : Int} (hz : z.natAbs < 2 ^ 1535) (h : ((2 ^ (64 * 24) : Nat) : Int) ∣ (sumW ws 24 : Int) - z) :
    (0 ≤ z → (sumW ws 24 : Int) = z) ∧ (z < 0 → (sumW ws 24 : Int) = z + ((2 ^ 1536 : Nat) : Int)) := by
  have hl := sumW_lt ws hw 24
  have e : (2 ^ 1536 : Nat) = 2 * 2 ^ 1535 := two_succ' (a := 1536) (b := 1535) rfl
  rw [show 64 * 24 = 1536 from rfl] at h hl
  obtain ⟨c, hc⟩ := h
  rw [e] at hc hl ⊢
  generalize (2 ^ 1535 : Nat) = K at *
  generalize sumW ws 24 = S at *
  have hK : ((2 * K : Nat) : Int) * c = 2 * ((K : Int) * c) := by rw [Int.natCast_mul, Int.mul_assoc]; rfl
  rw [hK] at hc
  have hKp : 0 < K := by omega
  have hc3 : c = 0 ∨ c = 1 ∨ c ≤ -1 ∨ 2 ≤ c := by omega
  rcases hc3 with rfl | rfl | h | h
  · simp at hc; constructor <;> intro h <;> omega
  · simp at hc; constructor <;> intro h <;> omega
  · have := Int.mul_le_mul_of_nonneg_left h (show (0 : Int) ≤ K by omega)
    rw [Int.mul_neg, Int.mul_one] at this
    constructor <;> intro h <;> omega
  · have := Int.mul_le_mul_of_nonneg_left h (show (0 : Int) ≤ K by omega)
    constructor <;> intro h <;> omega

end Ieee.Own
namespace Go.Proofs.Ytkfagpahbojigaa
open Go.ChangeShapes Go.WideShapes Go.ChangeAt Go.RowKit Ieee.Own

theorem Holds.sign {b : Nat} {w : World} {z : Int} {ws : Nat → Nat} (H : Holds b w z ws) (hz : z.natAbs < 2 ^ 1535) : (z < 0 ↔ ws 23 / 9223372036854775808 = 1) ∧ (z = 0 ↔ ∀ i, i < 24 → ws i = 0) := by
  obtain ⟨h1, h2⟩ := told H.lt hz H.val
  have ht := top_word ws H.lt 23
  have e : (2 ^ 1536 : Nat) = 2 * 2 ^ 1535 := two_succ' (a := 1536) (b := 1535) rfl
  rw [show 64 * 23 + 63 = 1535 from rfl] at ht
  rw [show (9223372036854775808 : Nat) = 2 ^ 63 from rfl, ht]
  rw [e] at h2
  have hp := Nat.two_pow_pos 1535
  have hpos := sumW_pos ws 24
  generalize (2 ^ 1535 : Nat) = K at *
  constructor
  · constructor
    · intro h; have := h2 h; show K ≤ sumW ws 24; omega
    · intro h
      refine Classical.byContradiction fun hn => ?_
      have := h1 (by omega)
      have h' : K ≤ sumW ws 24 := h
      omega
  · constructor
    · intro h
      have := h1 (by omega)
      exact sumW_zero ws 24 (by omega)
    · intro h
      have h3 : sumW ws 24 = 0 := sumW_of_zero ws 24 h
      by_cases hn : z < 0
      · have := h2 hn; omega
      · have := h1 (by omega); omega

def arrW (ws : Nat → Nat) : List Value := (List.range 24).map fun i => .int .u64 ((ws i : Nat) : Int)
theorem arrW_len (ws : Nat → Nat) : (arrW ws).length = 24 := by simp [arrW]
theorem arrW_at (ws : Nat → Nat) {i : Nat} (h : i < 24) : (arrW ws)[i]? = some (.int .u64 ((ws i : Nat) : Int)) := by simp [arrW, h]
theorem arrW_one (ws : Nat → Nat) : (arrW ws).toArray.all (·.oneCell') = true := by
  rw [Array.all_eq_true_iff_forall_mem]
  intro v hv
  simp [arrW] at hv
  obtain ⟨i, _, rfl⟩ := hv
  rfl
theorem Holds.range {b : Nat} {w : World} {z : Int} {ws : Nat → Nat} (H : Holds b w z ws) : w.rangeAt b 0 (arrW ws) := by
  intro j v hv
  have hj : j < 24 := by
    have := (List.getElem?_eq_some_iff.1 hv).1
    rwa [arrW_len] at this
  rw [arrW_at ws hj] at hv
  rw [Nat.zero_add, H.cell j hj]; exact hv
theorem sizeAcc : (Try.prog.info? 36).map (·.size) = some 24 := by kernel_rfl

theorem store_new (w : World) (ws : Nat → Nat) : (storeCells ⟨w.heap.size, 0, none⟩ (arrW ws)).run Try.prog (w.alloc (.cells #[.int .u64 0, .int .u64 0, .int .u64 0, .int .u64 0, .int .u64 0, .int .u64 0, .int .u64 0, .int .u64 0, .int .u64 0, .int .u64 0, .int .u64 0, .int .u64 0, .int .u64 0, .int .u64 0, .int .u64 0, .int .u64 0, .int .u64 0, .int .u64 0, .int .u64 0, .int .u64 0, .int .u64 0, .int .u64 0, .int .u64 0, .int .u64 0] 36)) = .ok () (w.alloc (.cells (arrW ws).toArray 36)) :=
  run_storeCells_new (P := Try.prog) w 36 _ (arrW ws).toArray (by rw [List.size_toArray, arrW_len]; exact sizeAcc) (by simp [arrW_len]) (arrW_one ws)
/-- a number's words in a block that was made last -/
structure Copy (w : World) (bs : Nat → Nat) (wr : World) : Prop where
  old : Below w.heap.size w wr
  size : w.heap.size < wr.heap.size
  cell : ∀ i, i < 24 → wr.cell? ⟨w.heap.size, i, none⟩ = some (.int .u64 (bs i))
  free : ∀ i, i < 24 → wr.frozen? ⟨w.heap.size, i, none⟩ = false
theorem Copy.start (w : World) (bs : Nat → Nat) : Copy w bs (w.alloc (.cells (arrW bs).toArray 36)) := by
  refine ⟨(Below.refl _ w).alloc (Nat.le_refl _) _, by simp, fun i hi => ?_, fun i _ => World.frozen?_alloc_at _ _ _ _ rfl⟩
  rw [World.cell?_alloc_at _ _ _ _ rfl]
  simpa using arrW_at bs hi

theorem Holds.drew {b : Nat} {w : World} {z : Int} {ws : Nat → Nat} (H : Holds b w z ws) : Holds b w.drew z ws := ⟨H.lt, H.size, H.cell, H.free, H.val⟩

/-- the words and the number they tell -/
structure Sums (ws : Nat → Nat) (z : Int) : Prop where
  lt : ∀ i, ws i < 18446744073709551616
  val : ((2 ^ (64 * 24) : Nat) : Int) ∣ (sumW ws 24 : Int) - z
theorem Holds.sums {b : Nat} {w : World} {z : Int} {ws : Nat → Nat} (H : Holds b w z ws) : Sums ws z := ⟨H.lt, H.val⟩
theorem Sums.holds {ws : Nat → Nat} {z : Int} (S : Sums ws z) {w wr : World} (C : Copy w ws wr) : Holds w.heap.size wr z ws := ⟨S.lt, C.size, C.cell, C.free, S.val⟩

theorem there_len {w : World} {b : Nat} (h : w.there b 0 24) (ws : Nat → Nat) : w.there b 0 (arrW ws).length := by rw [arrW_len]; exact h
theorem store_at {w : World} {b : Nat} (h : w.there b 0 24) (ws : Nat → Nat) : (storeCells ⟨b, 0, none⟩ (arrW ws)).run Try.prog w = .ok () (w.setCells b 0 (arrW ws)) := by
  have h' := there_len h ws
  have := run_storeCells_cells (P := Try.prog) b 0 (arrW ws) 0 w (fun j hj => by simpa using (h' j hj).1) (fun j hj => by simpa using (h' j hj).2)
    (fun v hv => (Array.all_eq_true_iff_forall_mem.1 (arrW_one ws)) v (by simpa using hv))
  simpa using this
theorem load_at {w : World} {b : Nat} (h : w.there b 0 24) (ws : Nat → Nat) : (loadVar 36 ⟨b, 0, none⟩).run Try.prog (w.setCells b 0 (arrW ws)) = .ok (.agg (arrW ws).toArray) (w.setCells b 0 (arrW ws)) :=
  run_loadVar_mid (P := Try.prog) _ b 0 36 (arrW ws) _ (World.rangeAt_setCells_same w b 0 _ (there_len h ws)) Try.underlying36 rfl (by rw [arrW_len]; exact sizeAcc)

theorem start_holds (w : World) : Holds w.heap.size (w.alloc (.cells #[.int .u64 0, .int .u64 0, .int .u64 0, .int .u64 0, .int .u64 0, .int .u64 0, .int .u64 0, .int .u64 0, .int .u64 0, .int .u64 0, .int .u64 0, .int .u64 0, .int .u64 0, .int .u64 0, .int .u64 0, .int .u64 0, .int .u64 0, .int .u64 0, .int .u64 0, .int .u64 0, .int .u64 0, .int .u64 0, .int .u64 0, .int .u64 0] 36)) 0 (fun _ => 0) := by
  refine ⟨fun _ => by omega, by simp, ?_, ?_, ?_⟩
  · intro i hi
    rw [World.cell?_alloc_at _ _ _ _ rfl]
    have : i = 0 ∨ i = 1 ∨ i = 2 ∨ i = 3 ∨ i = 4 ∨ i = 5 ∨ i = 6 ∨ i = 7 ∨ i = 8 ∨ i = 9 ∨ i = 10 ∨ i = 11 ∨ i = 12 ∨ i = 13 ∨ i = 14 ∨ i = 15 ∨ i = 16 ∨ i = 17 ∨ i = 18 ∨ i = 19 ∨ i = 20 ∨ i = 21 ∨ i = 22 ∨ i = 23 := by omega
    rcases this with rfl | rfl | rfl | rfl | rfl | rfl | rfl | rfl | rfl | rfl | rfl | rfl | rfl | rfl | rfl | rfl | rfl | rfl | rfl | rfl | rfl | rfl | rfl | rfl <;> rfl
  · intro i hi; exact World.frozen?_alloc_at _ _ _ _ rfl
  · rw [sumW_of_zero _ 24 (fun _ _ => rfl), Int.sub_zero]; exact Int.dvd_zero _

/-! ### spans and long sums in variables -/
def zAcc : Obj := .cells #[.int .u64 0, .int .u64 0, .int .u64 0, .int .u64 0, .int .u64 0, .int .u64 0, .int .u64 0, .int .u64 0, .int .u64 0, .int .u64 0, .int .u64 0, .int .u64 0, .int .u64 0, .int .u64 0, .int .u64 0, .int .u64 0, .int .u64 0, .int .u64 0, .int .u64 0, .int .u64 0, .int .u64 0, .int .u64 0, .int .u64 0, .int .u64 0] 36
def vAcc (ws : Nat → Nat) : Obj := .cells (arrW ws).toArray 36
structure Env (w0 : World) (L : List (Nat × Nat × Nat)) (A : List (Nat × Int)) (w : World) : Prop where
  cls : Cls w0 L w
  acc : ∀ (j k : Nat) (z : Int), A[j]? = some (k, z) → w0.heap.size ≤ k ∧ ∃ ws, Holds k w z ws
  inj : ∀ (i j k : Nat) (z y : Int), A[i]? = some (k, z) → A[j]? = some (k, y) → i = j
  sep : ∀ (i j g k x y : Nat) (z : Int), L[i]? = some (g, x, y) → A[j]? = some (k, z) → g ≠ k
theorem Holds.heap {k : Nat} {w w' : World} {z : Int} {ws : Nat → Nat} (H : Holds k w z ws) (h : w'.heap[k]? = w.heap[k]?) (hs : w.heap.size ≤ w'.heap.size) : Holds k w' z ws :=
  ⟨H.lt, Nat.lt_of_lt_of_le H.size hs, fun i hi => by rw [← H.cell i hi]; unfold World.cell?; rw [h], fun i hi => by rw [← H.free i hi]; unfold World.frozen?; rw [h], H.val⟩
theorem Blk.heap {g x y : Nat} {w w' : World} (b : Blk w g x y) (h : w'.heap[g]? = w.heap[g]?) (hs : w.heap.size ≤ w'.heap.size) : Blk w' g x y :=
  ⟨Nat.lt_of_lt_of_le b.lt hs, by rw [← b.lo]; unfold World.cell?; rw [h], by rw [← b.hi]; unfold World.cell?; rw [h], by rw [← b.f0]; unfold World.frozen?; rw [h], by rw [← b.f1]; unfold World.frozen?; rw [h]⟩
theorem Env.of {w0 w : World} {L : List (Nat × Nat × Nat)} (C : Cls w0 L w) : Env w0 L [] w :=
  ⟨C, fun j k z h => by simp at h, fun i j k z y h => by simp at h, fun i j g k x y z _ h => by simp at h⟩
section
variable {w0 w w' : World} {L : List (Nat × Nat × Nat)} {A : List (Nat × Int)}
theorem Env.on (E : Env w0 L A w) (h : Below w.heap.size w w') : Env w0 L A w' :=
  ⟨E.cls.on h, fun j k z hj => ⟨(E.acc j k z hj).1, by obtain ⟨ws, H⟩ := (E.acc j k z hj).2; exact ⟨ws, H.heap (h.block _ H.size) h.size⟩⟩, E.inj, E.sep⟩
theorem Env.draws (E : Env w0 L A w) : Env w0 L A w.drew := E.on (Below.refl _ w).drew
theorem Env.new (E : Env w0 L A w) (a b : Nat) : Env w0 (L ++ [(w.heap.size, a, b)]) A (w.alloc (boxO a b)) := by
  have hb : Below w.heap.size w (w.alloc (boxO a b)) := (Below.refl _ w).alloc (Nat.le_refl _) _
  have E' := E.on hb
  refine ⟨E.cls.new a b, E'.acc, E.inj, fun i j g k x y z hi hj => ?_⟩
  by_cases hl : i < L.length
  · rw [List.getElem?_append_left hl] at hi; exact E.sep i j g k x y z hi hj
  · have h1 := (List.getElem?_eq_some_iff.1 hi).1
    simp at h1
    have : i = L.length := by omega
    subst this
    simp at hi
    obtain ⟨ws, H⟩ := (E.acc j k z hj).2
    have := H.size
    omega
theorem Env.newA (E : Env w0 L A w) {o : Obj} {z : Int} {ws : Nat → Nat} (H : Holds w.heap.size (w.alloc o) z ws) : Env w0 L (A ++ [(w.heap.size, z)]) (w.alloc o) := by
  have hb : Below w.heap.size w (w.alloc o) := (Below.refl _ w).alloc (Nat.le_refl _) _
  have E' := E.on hb
  have last : ∀ k y j, (A ++ [(w.heap.size, z)])[j]? = some (k, y) → ¬ j < A.length → j = A.length ∧ k = w.heap.size ∧ y = z := fun k y j h hk => by
    have h1 := (List.getElem?_eq_some_iff.1 h).1
    simp at h1
    have : j = A.length := by omega
    subst this
    simp at h
    exact ⟨rfl, h.1.symm, h.2.symm⟩
  have lt : ∀ j k y, A[j]? = some (k, y) → k < w.heap.size := fun j k y h => by obtain ⟨ws, H⟩ := (E.acc j k y h).2; exact H.size
  refine ⟨E'.cls, fun j k y hj => ?_, fun i j k z' y hi hj => ?_, fun i j g k x y z' hi hj => ?_⟩
  · by_cases hl : j < A.length
    · rw [List.getElem?_append_left hl] at hj; exact E'.acc j k y hj
    · obtain ⟨-, rfl, rfl⟩ := last k y j hj hl
      exact ⟨E.cls.old.size, ws, H⟩
  · by_cases hil : i < A.length <;> by_cases hjl : j < A.length
    · rw [List.getElem?_append_left hil] at hi
      rw [List.getElem?_append_left hjl] at hj
      exact E.inj i j k z' y hi hj
    · rw [List.getElem?_append_left hil] at hi
      have := lt i k z' hi
      have := (last k y j hj hjl).2.1
      omega
    · rw [List.getElem?_append_left hjl] at hj
      have := lt j k y hj
      have := (last k z' i hi hil).2.1
      omega
    · have := (last k z' i hi hil).1
      have := (last k y j hj hjl).1
      omega
  · by_cases hl : j < A.length
    · rw [List.getElem?_append_left hl] at hj; exact E.sep i j g k x y z' hi hj
    · have := (last k z' j hj hl).2.1
      have := (E.cls.blk i g x y hi).2.lt
      omega
theorem Env.zero (E : Env w0 L A w) : Env w0 L (A ++ [(w.heap.size, 0)]) (w.alloc zAcc) := E.newA (start_holds w)
theorem Env.box (E : Env w0 L A w) {ws : Nat → Nat} {z : Int} (S : Sums ws z) : Env w0 L (A ++ [(w.heap.size, z)]) (w.alloc (vAcc ws)) := E.newA (S.holds (Copy.start w ws))
theorem Env.put (E : Env w0 L A w) (j : Nat) {g x y : Nat} (hj : L[j]? = some (g, x, y)) (s t : Nat) : Env w0 (L.set j (g, s, t)) A (put2 w g s t) := by
  have hl := (List.getElem?_eq_some_iff.1 hj).1
  have back : ∀ n h p q, (L.set j (g, s, t))[n]? = some (h, p, q) → ∃ p' q', L[n]? = some (h, p', q') := fun n h p q hn => by
    by_cases hjn : j = n
    · subst hjn
      rw [List.getElem?_set_self hl] at hn
      simp at hn
      rw [← hn.1]
      exact ⟨_, _, hj⟩
    · rw [List.getElem?_set_ne hjn] at hn; exact ⟨_, _, hn⟩
  refine ⟨E.cls.put j hj s t, fun i k z hi => ⟨(E.acc i k z hi).1, ?_⟩, E.inj, fun i n h k p q z hi hn => ?_⟩
  · obtain ⟨ws, H⟩ := (E.acc i k z hi).2
    have hne := E.sep j i g k x y z hj hi
    exact ⟨ws, H.heap (by unfold put2; rw [Below.heap_setCell _ _ _ _ (by simpa using Ne.symm hne), Below.heap_setCell _ _ _ _ (by simpa using Ne.symm hne)]) (by rw [put2_size]; exact Nat.le_refl _)⟩
  · obtain ⟨p', q', h'⟩ := back i h p q hi
    exact E.sep i n h k p' q' z h' hn
theorem Env.add (E : Env w0 L A w) (j : Nat) {k : Nat} {z z' : Int} (hj : A[j]? = some (k, z)) (hP : ∃ ns, Holds k w' z' ns) (hs : Still k w w') : Env w0 L (A.set j (k, z')) w' := by
  have hl := (List.getElem?_eq_some_iff.1 hj).1
  have hk := (E.acc j k z hj).1
  have back : ∀ n m y, (A.set j (k, z'))[n]? = some (m, y) → ∃ y', A[n]? = some (m, y') := fun n m y hn => by
    by_cases hjn : j = n
    · subst hjn
      rw [List.getElem?_set_self hl] at hn
      simp at hn
      rw [← hn.1]
      exact ⟨_, hj⟩
    · rw [List.getElem?_set_ne hjn] at hn; exact ⟨_, hn⟩
  refine ⟨⟨E.cls.old.trans (hs.1.mono hk), fun i g x y hi => ?_, E.cls.inj⟩, fun i m y hi => ?_, fun i n m y y' hi hn => ?_, fun i n g m x y y' hi hn => ?_⟩
  · have b := E.cls.blk i g x y hi
    exact ⟨b.1, b.2.heap (hs.2.2 g b.2.lt (E.sep i j g k x y z hi hj)) hs.1.size⟩
  · by_cases hij : j = i
    · subst hij
      rw [List.getElem?_set_self hl] at hi
      simp at hi
      obtain ⟨rfl, rfl⟩ := hi
      exact ⟨hk, hP⟩
    · rw [List.getElem?_set_ne hij] at hi
      obtain ⟨ws, H⟩ := (E.acc i m y hi).2
      have hne : m ≠ k := fun e => by subst e; exact hij (E.inj j i m z y hj hi)
      exact ⟨(E.acc i m y hi).1, ws, H.heap (hs.2.2 m H.size hne) hs.1.size⟩
  · obtain ⟨p, hp⟩ := back i m y hi
    obtain ⟨q, hq⟩ := back n m y' hn
    exact E.inj i n m p q hp hq
  · obtain ⟨q, hq⟩ := back n m y' hn
    exact E.sep i n g m x y q hi hq
end

/-! ### fit numbers, in units of the long sum -/
theorem fit_unit {b : Nat} (h : b < 18446744073709551616) (f : fitB b = true) : ∃ X : Int, V b = X * 2 ^ 50 ∧ ∀ k z ws w, Holds k w z ws → Calls Try.prog 28 #[.pointer (some ⟨k, 0, none⟩), .float .f64 b] w (PutPost k w (z + X)) := by
  obtain ⟨⟨X, x⟩, y, -⟩ := good (k := 1275) (fit_fin h f) (fit_dvd h f) (fit_abs (k := 1275) h f (Nat.le_refl _)) (by decide)
  exact ⟨X, x, fun k z ws w H => add_any k b X z ws w (fit_fin h f) x y H⟩
theorem sign_run {k : Nat} {z : Int} {w : World} (hz : z.natAbs < 2 ^ 1535) (H : ∃ ws, Holds k w z ws) : Calls Try.prog 32 #[.pointer (some ⟨k, 0, none⟩)] w fun e w' => e = .returned (.int .i64 (signI z)) ∧ w = w' := by
  obtain ⟨ws, H⟩ := H
  obtain ⟨h1, h2⟩ := H.sign hz
  exact sign_any k z ws w H h1 h2
end Go.Proofs.Ytkfagpahbojigaa
