/- Proved here: what the texts Sui, Suo, Suq prove, one behind the other. -/
import Derived.Test.YtocnpcjpkieogaaGreatDoorJs14
import Derived.Shelf.Strings.SlTrimAscii
import Derived.Shelf.Strings.Prefix
import Derived.Test.YtocnpcjpkieogaaGreatDoorJs11
import Derived.Test.YtocnpcjpkieogaaGreatDoorJs4

namespace Go.Proofs.YtocnpcjpkieogaaGreatDoor
open Go.Shelf Go.ChangeShapes Go.WideShapes Go.ChangeAt Go.RowKit

def renTrim : Ren := ⟨fun n => if n = 119 then 148 else if n = 120 then 123 else if n = 137 then 147 else if n = 151 then 86 else if n = 152 then 122 else if n = 160 then 30 else if n = 197 then 85 else if n = 217 then 124 else if n = 224 then 126 else if n = 225 then 125 else if n = 227 then 50 else if n = 228 then 84 else if n = 231 then 48 else if n = 232 then 49 else if n = 233 then 51 else if n = 234 then 52 else if n = 235 then 53 else if n = 236 then 54 else if n = 260 then 121 else if n = 266 then 149 else 87, fun n => if n = 0 then 0 else if n = 3 then 3 else if n = 4 then 4 else if n = 5 then 5 else if n = 9 then 9 else if n = 21 then 21 else if n = 46 then 55 else if n = 105 then 112 else if n = 116 then 78 else if n = 117 then 79 else if n = 119 then 185 else if n = 124 then 82 else if n = 138 then 187 else 188, fun n => if n = 3 then 12 else 13⟩
set_option maxRecDepth 100000 in
set_option maxHeartbeats 4000000 in
theorem laysTrim : Lays.n160 Tryz.prog renTrim := by
  constructor
  case f119 => exact Tryz.func148.trans (congrArg some (by kernel_rfl))
  case f120 => exact Tryz.func123.trans (congrArg some (by kernel_rfl))
  case f137 => exact Tryz.func147.trans (congrArg some (by kernel_rfl))
  case f151 => exact Tryz.func86.trans (congrArg some (by kernel_rfl))
  case f152 => exact Tryz.func122.trans (congrArg some (by kernel_rfl))
  case f160 => exact Tryz.func30.trans (congrArg some (by kernel_rfl))
  case f197 => exact Tryz.func85.trans (congrArg some (by kernel_rfl))
  case f217 => exact Tryz.func124.trans (congrArg some (by kernel_rfl))
  case f224 => exact Tryz.func126.trans (congrArg some (by kernel_rfl))
  case f225 => exact Tryz.func125.trans (congrArg some (by kernel_rfl))
  case f227 => exact Tryz.func50.trans (congrArg some (by kernel_rfl))
  case f228 => exact Tryz.func84.trans (congrArg some (by kernel_rfl))
  case f231 => exact Tryz.func48.trans (congrArg some (by kernel_rfl))
  case f232 => exact Tryz.func49.trans (congrArg some (by kernel_rfl))
  case f233 => exact Tryz.func51.trans (congrArg some (by kernel_rfl))
  case f234 => exact Tryz.func52.trans (congrArg some (by kernel_rfl))
  case f235 => exact Tryz.func53.trans (congrArg some (by kernel_rfl))
  case f236 => exact Tryz.func54.trans (congrArg some (by kernel_rfl))
  case f260 => exact Tryz.func121.trans (congrArg some (by kernel_rfl))
  case f266 => exact Tryz.func149.trans (congrArg some (by kernel_rfl))
  case f271 => exact Tryz.func87.trans (congrArg some (by kernel_rfl))
  all_goals first
    | kernel_rfl
    | (intro w; kernel_rfl)
def renTpf : Ren := ⟨fun n => if n = 101 then 15 else if n = 206 then 55 else 31, fun n => if n = 3 then 3 else if n = 4 then 4 else 9, fun n => n⟩
set_option maxRecDepth 100000 in
set_option maxHeartbeats 4000000 in
theorem laysTpf : Lays.n101 Tryz.prog renTpf := by
  constructor
  case f101 => exact Tryz.func15.trans (congrArg some (by kernel_rfl))
  case f206 => exact Tryz.func55.trans (congrArg some (by kernel_rfl))
  case f208 => exact Tryz.func31.trans (congrArg some (by kernel_rfl))
  all_goals first
    | kernel_rfl
    | (intro w; kernel_rfl)

set_option maxRecDepth 100000 in
theorem trim_run (s : ByteArray) (hs : s.size ≤ 1000) (w : World) : Calls Tryz.prog 30 #[.string s, .string ⟨#[45, 48, 46]⟩] w fun e w' => e = .returned (.string ⟨(Lib.trimS s.data.toList [45, 48, 46]).toArray⟩) ∧ Below w.heap.size w w' :=
  Any.strings_Trim_laid laysTrim (by kernel_rfl) s ⟨#[45, 48, 46]⟩ w (by omega) (by decide) (ascii_of_all (by decide))
set_option maxRecDepth 100000 in
theorem tpf_run (s : ByteArray) (w : World) : Calls Tryz.prog 15 #[.string s, .string ⟨#[45]⟩] w fun e w' => e = .returned (.string ⟨(Lib.trimPrefix s.data.toList [45]).toArray⟩) ∧ w = w' :=
  (Any.strings_TrimPrefix laysTpf s ⟨#[45]⟩ w).mono fun _ _ h => by
    exact ⟨h.1, h.2.symm⟩
end Go.Proofs.YtocnpcjpkieogaaGreatDoor

namespace Go.Proofs.YtocnpcjpkieogaaGreatDoor
open Go.ChangeShapes Go.WideShapes Go.ChangeAt Go.RowKit Ieee.Own

/-- ftoa64 writes the figure -/
def FtoaOk (b p : Nat) : Prop := ∀ (w0 w : World) (a : Nat), Out w0 a [] 0 [] w → Lib9 w →
    Calls Tryz.prog 47 #[.slice (some ⟨a, 0, none⟩) 0 24, .float .f64 b, .int .u8 102, .int .i64 (p : Int)] w fun e w' =>
      ∃ M : List Int, e = .returned (.slice (some ⟨a, 0, none⟩) M.length 24) ∧ (∃ g S, Out w0 a M g S w') ∧ M = fmL b p
set_option maxRecDepth 100000 in
theorem make0_run (w : World) : (Instr.makeSlice 52 (.int .i64 0) (.int .i64 24)).run Tryz.prog w = .ok (.slice (some ⟨w.heap.size, 0, none⟩) 0 24) (w.alloc (.cells (madeCells #[Value.int .u8 0] 24) 5)) := by
  obtain ⟨i0, hi0, hz0, hz1, hz2⟩ := info_ofB infoB
  have := run_make (P := Tryz.prog) w 52 5 i0 (.int .u8 0) Tryz.underlying52 hi0 hz0 .i64 .i64 0 24 (by omega) (by omega) (by rw [hz2]; omega) (by omega)
  rw [hz1] at this
  exact this
theorem Out.first (w : World) (h : 18 + 1 ≤ w.heap.size) : Out w w.heap.size [] 0 [] (w.alloc (.cells (madeCells #[Value.int .u8 0] 24) 5)) := by
  refine ⟨(Below.refl _ _).alloc (Nat.le_refl _) _, Nat.le_refl _, by simp, fun k hk => ?_, fun k hk => by simp at hk, fun k => World.frozen?_alloc_at _ _ _ _ rfl, by omega, fun k hk => by simp at hk⟩
  rw [World.cell?_alloc_at _ _ _ _ rfl]
  exact ⟨_, Array.getElem?_eq_getElem (by rw [size_madeCells]; exact hk)⟩
set_option maxRecDepth 100000 in
set_option maxHeartbeats 2000000 in
theorem iff_run (b p : Nat) (hp : p ≤ 9) (H : FtoaOk b p) (w : World) (L : Lib9 w) :
    Calls Tryz.prog 29 #[.float .f64 b, .int .u8 102, .int .i64 (p : Int), .int .i64 64] w fun e w' => e = .returned (.string (strOfNums (fmL b p))) ∧ Below w.heap.size w w' := by
  have Mk := make0_run w
  have C := Lib.hid (H w _ w.heap.size (Out.first w L.size) (L.on ((Below.refl _ _).alloc (Nat.le_refl _) _) L.size))
  have g1 : (p : Int) ≤ 9 := by omega
  have mx : max ((p : Int) + 4) 24 = 24 := by omega
  obtain ⟨ML, hML⟩ : ∃ ML, ML = fmL b p := ⟨_, rfl⟩
  rw [← hML] at C ⊢
  clear L H hML
  go_enter Tryz.func29, Tryz.ntmps29
  go_wp2_with fail
  refine C.out.mono ?_
  rintro _ w1 ⟨M, rfl, ⟨g, S, O⟩, hM⟩
  subst hM
  have CV := run_convert_bytes_arg w1 52 5 Tryz.underlying52 Tryz.underlying5 w.heap.size 0 M.length 24 M rfl (fun k hk => by rw [Nat.zero_add]; exact O.told k hk) 9 Tryz.underlying9
  have B := Lib.hid O.old
  clear O C Mk
  go_wp2_with fail
  go_ret
  exact ⟨rfl, B.out⟩
set_option maxRecDepth 100000 in
theorem ff_run (b p : Nat) (hp : p ≤ 9) (H : FtoaOk b p) (w : World) (L : Lib9 w) :
    Calls Tryz.prog 13 #[.float .f64 b, .int .u8 102, .int .i64 (p : Int), .int .i64 64] w fun e w' => e = .returned (.string (strOfNums (fmL b p))) ∧ Below w.heap.size w w' := by
  have C := Lib.hid (iff_run b p hp H w L)
  clear H L
  go_enter Tryz.func13, Tryz.ntmps13
  go_wp2_with fail
  refine C.out.mono ?_
  rintro _ w1 ⟨rfl, B⟩
  replace B := Lib.hid B
  clear C
  go_wp2_with fail
  go_ret
  exact ⟨rfl, B.out⟩
/-! ### isNought -/
theorem dropw_nil {α : Type} (p : α → Bool) (l : List α) : l.dropWhile p = [] ↔ ∀ c ∈ l, p c = true := by
  induction l with
  | nil => simp
  | cons a l ih =>
    rw [List.dropWhile_cons]
    by_cases q : p a = true
    · rw [if_pos q, ih]
      constructor
      · intro h c hc
        rcases List.mem_cons.1 hc with rfl | hc
        · exact q
        · exact h c hc
      · intro h c hc
        exact h c (List.mem_cons_of_mem _ hc)
    · rw [if_neg q]
      constructor
      · intro h; cases h
      · intro h; exact absurd (h a (List.mem_cons_self ..)) q
theorem takew_all {α : Type} (p : α → Bool) (l : List α) : ∀ c ∈ l.takeWhile p, p c = true := by
  induction l with
  | nil => simp
  | cons a l ih =>
    rw [List.takeWhile_cons]
    by_cases q : p a = true
    · rw [if_pos q]
      intro c hc
      rcases List.mem_cons.1 hc with rfl | hc
      · exact q
      · exact ih c hc
    · rw [if_neg q]
      intro c hc
      cases hc
theorem trim_nil (l : List UInt8) : (Lib.trimS l [45, 48, 46] = []) ↔ ∀ c ∈ l, [45, 48, 46].contains c = true := by
  unfold Lib.trimS Lib.trimLeftS Lib.trimRightS
  rw [dropw_nil]
  constructor
  · intro h c hc
    by_cases q : [45, 48, 46].contains c = true
    · exact q
    · refine h c ?_
      rw [List.mem_reverse]
      have hm : c ∈ l.reverse := List.mem_reverse.2 hc
      rw [← List.takeWhile_append_dropWhile (p := fun x => [45, 48, 46].contains x) (l := l.reverse), List.mem_append] at hm
      rcases hm with hm | hm
      · exact absurd (takew_all _ _ _ hm) q
      · exact hm
  · intro h c hc
    rw [List.mem_reverse] at hc
    exact h c (List.mem_reverse.1 (List.dropWhile_sublist _ |>.subset hc))
/-- are all of a text's bytes 45, 48 or 46? -/
def ngtL (L : List Int) : Bool := L.all fun c => decide (c = 45) || decide (c = 48) || decide (c = 46)
set_option maxRecDepth 100000 in
theorem ngt_run (s : ByteArray) (hs : s.size ≤ 1000) (w : World) : Calls Tryz.prog 14 #[.string s] w fun e w' => e = .returned (.bool (ngtL (byI s))) ∧ Below w.heap.size w w' := by
  have C := Lib.hid (trim_run s hs w)
  have e1 : Hid (((⟨(Lib.trimS s.data.toList [45, 48, 46]).toArray⟩ : ByteArray).toList.isEmpty) = ngtL (byI s)) := by
    show _ = _
    have eL : (⟨(Lib.trimS s.data.toList [45, 48, 46]).toArray⟩ : ByteArray).toList = Lib.trimS s.data.toList [45, 48, 46] := (ByteArray.toList_eq _).trans rfl
    rw [eL, Bool.eq_iff_iff, List.isEmpty_iff, trim_nil]
    unfold ngtL byI
    rw [List.all_map, List.all_eq_true]
    refine forall_congr' fun c => imp_congr_right fun _ => ?_
    simp only [List.contains_cons, List.contains_nil, Bool.or_false, Bool.or_eq_true, beq_iff_eq, Function.comp, decide_eq_true_eq]
    have h : ∀ k : UInt8, c = k ↔ ((c.toNat : Nat) : Int) = ((k.toNat : Nat) : Int) := fun k => ⟨fun h => by rw [h], fun h => UInt8.toNat_inj.1 (by omega)⟩
    rw [h 45, h 48, h 46]
    show _ ↔ (_ ∨ _) ∨ _
    constructor
    · rintro (h | h | h)
      · exact .inl (.inl h)
      · exact .inl (.inr h)
      · exact .inr h
    · rintro ((h | h) | h)
      · exact .inl h
      · exact .inr (.inl h)
      · exact .inr (.inr h)
  obtain ⟨V, hV⟩ : ∃ V, V = ngtL (byI s) := ⟨_, rfl⟩
  rw [← hV] at e1
  rw [← hV]
  generalize (⟨(Lib.trimS s.data.toList [45, 48, 46]).toArray⟩ : ByteArray) = t at *
  clear hV hs
  go_enter Tryz.func14, Tryz.ntmps14
  go_wp2_with fail
  refine C.out.mono ?_
  rintro _ w1 ⟨rfl, B⟩
  replace B := Lib.hid B
  clear C
  go_wp2_with fail
  go_ret
  exact ⟨ret_bo e1.out, B.out⟩
end Go.Proofs.YtocnpcjpkieogaaGreatDoor

namespace Go.Proofs.YtocnpcjpkieogaaGreatDoor
open Go.ChangeShapes Go.WideShapes Go.ChangeAt Go.RowKit Ieee.Own

theorem all_noughts : ∀ (w n : Nat), (∀ x ∈ dgI w n, x = 45 ∨ x = 48 ∨ x = 46) → n % 10 ^ w = 0
  | 0, n, _ => by simp; omega
  | w + 1, n, h => by
    rw [dgI_succ] at h
    have h1 := all_noughts w (n / 10) fun x hx => h x (List.mem_append_left _ hx)
    have h2 := h (48 + ((n % 10 : Nat) : Int)) (List.mem_append_right _ (List.mem_cons_self ..))
    have h3 : n % 10 = 0 := by omega
    rw [Nat.pow_succ, Nat.mul_comm, Nat.mod_mul, h1, h3]
theorem noughts_all : ∀ (w : Nat), ∀ x ∈ dgI w 0, x = 48
  | 0, x, h => by cases h
  | w + 1, x, h => by
    rw [dgI_succ, List.mem_append] at h
    rcases h with h | h
    · exact noughts_all w x h
    · have := List.mem_singleton.1 h
      rw [this]; rfl
theorem sgL_ok (neg : Bool) : ∀ x ∈ sgL neg, x = 45 := by
  cases neg
  · intro x hx; cases hx
  · intro x hx; exact List.mem_singleton.1 hx
theorem nuL_zero (p : Nat) : ∀ x ∈ nuL 0 p, x = 48 ∨ x = 46 := by
  intro x hx
  unfold nuL at hx
  rw [Nat.zero_div, Nat.zero_mod, List.mem_append] at hx
  rcases hx with hx | hx
  · exact .inl (noughts_all _ x hx)
  · split at hx
    · rw [List.mem_append] at hx
      rcases hx with hx | hx
      · exact .inr (List.mem_singleton.1 hx)
      · exact .inl (noughts_all _ x hx)
    · cases hx
theorem ngt_fm (b p : Nat) : ngtL (fmL b p) = decide (scN b p = 0) := by
  rw [Bool.eq_iff_iff, decide_eq_true_eq]
  unfold ngtL fmL
  generalize scN b p = n
  rw [List.all_eq_true]
  constructor
  · intro h
    have h' : ∀ x ∈ nuL n p, x = 45 ∨ x = 48 ∨ x = 46 := by
      intro x hx
      have := h x (List.mem_append_right _ hx)
      simp only [Bool.or_eq_true, decide_eq_true_eq] at this
      omega
    unfold nuL at h'
    have q0 := all_noughts _ _ fun x hx => h' x (List.mem_append_left _ hx)
    rw [Nat.mod_eq_of_lt (wdN_lt _)] at q0
    by_cases hp : 0 < p
    · rw [if_pos hp] at h'
      have r0 := all_noughts _ _ fun x hx => h' x (List.mem_append_right _ (List.mem_append_right _ hx))
      rw [Nat.mod_mod] at r0
      have := Nat.div_add_mod n (10 ^ p)
      rw [q0, r0] at this
      omega
    · obtain rfl : p = 0 := by omega
      rw [Nat.pow_zero, Nat.div_one] at q0
      exact q0
  · rintro rfl c hc
    rw [List.mem_append] at hc
    simp only [Bool.or_eq_true, decide_eq_true_eq]
    rcases hc with hc | hc
    · have := sgL_ok _ _ hc; omega
    · have := nuL_zero _ _ hc; omega
theorem byI_str (L : List Int) (h : ∀ x ∈ L, 0 ≤ x ∧ x < 256) : byI (strOfNums L) = L := by
  unfold byI
  rw [strOfNums_data, List.map_map]
  refine (List.map_congr_left fun x hx => ?_).trans (List.map_id L)
  have := h x hx
  show (((UInt8.ofNat x.toNat).toNat : Nat) : Int) = id x
  rw [UInt8.toNat_ofNat']
  show _ = x
  omega
theorem nuL_bytes (n p : Nat) : ∀ x ∈ nuL n p, 0 ≤ x ∧ x < 256 := by
  intro x hx
  unfold nuL at hx
  rw [List.mem_append] at hx
  rcases hx with hx | hx
  · have := dgI_digit _ _ _ hx; omega
  · split at hx
    · rw [List.mem_append] at hx
      rcases hx with hx | hx
      · have := List.mem_singleton.1 hx; omega
      · have := dgI_digit _ _ _ hx; omega
    · cases hx
theorem fmL_bytes (b p : Nat) : ∀ x ∈ fmL b p, 0 ≤ x ∧ x < 256 := by
  intro x hx
  unfold fmL at hx
  rw [List.mem_append] at hx
  rcases hx with hx | hx
  · have := sgL_ok _ _ hx; omega
  · exact nuL_bytes _ _ _ hx
theorem fmL_len (b p : Nat) (hp : p ≤ 9) (hf : b % 9223372036854775808 = 0 ∨ b % 9223372036854775808 ≤ 4742290407621132288) : (fmL b p).length ≤ 100 := by
  have h := scN_le b p hp hf
  unfold fmL nuL
  generalize scN b p = n at *
  have h2 : n / 10 ^ p < 4611686018427387904 := Nat.lt_of_le_of_lt (Nat.div_le_self _ _) h
  have h3 : wdN (n / 10 ^ p) ≤ 19 := wdN_le 19 _ (by omega) (by rw [show (10 : Nat) ^ 19 = 10000000000000000000 by decide]; omega)
  have h4 : (sgL (decide (9223372036854775808 ≤ b))).length ≤ 1 := by unfold sgL; split <;> decide
  rw [List.length_append, List.length_append, dgI_len]
  split
  · rw [List.length_append, dgI_len]; simp; omega
  · simp; omega
theorem figS_is (b p : Nat) : figS b p = strOfNums ((if 9223372036854775808 < b ∧ 0 < scN b p then [45] else []) ++ nuL (scN b p) p) := by
  have e : sgS b (scN b p) = strOfNums (if 9223372036854775808 < b ∧ 0 < scN b p then [45] else []) := by
    unfold sgS
    split <;> rfl
  have e46 : (⟨#[46]⟩ : ByteArray) = strOfNums [46] := rfl
  unfold figS nuL tenN
  rw [e]
  generalize scN b p = n
  unfold dgS
  by_cases hp : 0 < p
  · rw [if_pos hp, if_pos hp, e46, str_app, str_app, str_app, List.append_assoc]
  · rw [if_neg hp, if_neg hp, str_app, List.append_nil]
theorem fm_fig (b p : Nat) (h : 0 < scN b p) : strOfNums (fmL b p) = figS b p := by
  rw [figS_is]
  unfold fmL sgL
  have hb : b ≠ 9223372036854775808 := by
    rintro rfl
    have : scN 9223372036854775808 p = 0 := if_pos rfl
    omega
  congr 2
  by_cases c : 9223372036854775808 < b
  · rw [if_pos (decide_eq_true (by omega)), if_pos ⟨c, h⟩]
  · rw [if_neg (by simp; omega), if_neg (fun q => c q.1)]
theorem fm_trim (b p : Nat) (h : scN b p = 0) : (⟨(Lib.trimPrefix (strOfNums (fmL b p)).data.toList [45]).toArray⟩ : ByteArray) = figS b p := by
  rw [figS_is, if_neg (fun q => by omega)]
  have key : Lib.trimPrefix (strOfNums (fmL b p)).data.toList [45] = (strOfNums (nuL (scN b p) p)).data.toList := by
    unfold fmL
    rw [h, strOfNums_data, strOfNums_data, List.map_append]
    have h48 : nuL 0 p = 48 :: (if 0 < p then [46] ++ dgI p (0 % 10 ^ p) else []) := by
      unfold nuL
      rw [Nat.zero_div, wdN_low (by decide)]
      rfl
    rw [h48]
    generalize (if 0 < p then [46] ++ dgI p (0 % 10 ^ p) else []) = T
    unfold sgL
    split
    · rfl
    · rfl
  rw [key]
  rfl
set_option maxRecDepth 100000 in
theorem fig_ok (b p : Nat) (hb : b < 18446744073709551616) (hp : p ≤ 9) (h : figB b = true) (H : FtoaOk b p) (w : World) (L : Lib9 w) :
    Calls Tryz.prog 5 #[.float .f64 b, .int .i64 (p : Int)] w fun e w' => e = .returned (figV b p) ∧ Below w.heap.size w w' := by
  unfold figB at h
  rw [Bool.and_eq_true, decide_eq_true_eq] at h
  obtain ⟨h1, h2⟩ := h
  have R : figV b p = .tuple #[.string (figS b p), .int .i64 0] := by
    unfold figV
    rw [if_neg (by omega), if_pos (by unfold figB; rw [h1]; simpa using h2)]
    rfl
  have F := Lib.hid (fun u => fit_any b hb u)
  have FA := Lib.hid (fun u => abs_any b hb u)
  rw [h1] at F
  have g1 : decide ((p : Int) < 0) = false := decide_eq_false (by omega)
  have g2 : decide (9 < (p : Int)) = false := decide_eq_false (by omega)
  have hm : b % 9223372036854775808 < 9223372036854775808 := by omega
  have A := o_gtr (b % 9223372036854775808) 4742290407621132288 (by omega) (by omega)
  rw [key_low hm, key_low (by omega), decide_eq_false (by omega)] at A
  have C := Lib.hid (ff_run b p hp H w L)
  have hl := fmL_len b p hp (Or.inr h2)
  have N := fun u => ngt_run (strOfNums (fmL b p)) (by rw [strOfNums_size]; omega) u
  rw [byI_str _ (fmL_bytes b p), ngt_fm] at N
  have T := Lib.hid (fun u => tpf_run (strOfNums (fmL b p)) u)
  by_cases q : scN b p = 0
  · have V := fm_trim b p q
    rw [decide_eq_true q] at N
    generalize (⟨(Lib.trimPrefix (strOfNums (fmL b p)).data.toList [45]).toArray⟩ : ByteArray) = t at *
    generalize strOfNums (fmL b p) = s at *
    rw [← V] at R
    clear V
    generalize b % 9223372036854775808 = m at *
    replace N := Lib.hid N
    replace R := Lib.hid R
    clear h1 h2 hb hp hm L H hl q
    go_enter Tryz.func5, Tryz.ntmps5
    go_wp2_with (first | (go_at_call 11; ((with_reducible refine (F.out _).mono ?_); rintro e w' ⟨rfl, rfl⟩)) | (go_at_call 12; ((with_reducible refine (FA.out _).mono ?_); rintro e w' ⟨rfl, rfl⟩)))
    refine C.out.mono ?_
    rintro _ w1 ⟨rfl, B⟩
    replace B := Lib.hid B
    clear C
    go_wp2_with fail
    refine (N.out _).mono ?_
    rintro _ w2 ⟨rfl, B2⟩
    replace B := Lib.hid (B.out.trans (B2.mono B.out.size))
    clear N B2
    go_wp2_with fail
    refine (T.out _).mono ?_
    rintro _ w3 ⟨rfl, rfl⟩
    clear T
    go_wp2_with fail
    go_ret2
    rw [R.out]
    exact ⟨rfl, B.out⟩
  · have V := fm_fig b p (by omega)
    rw [decide_eq_false q] at N
    generalize strOfNums (fmL b p) = s at *
    rw [← V] at R
    clear V T
    generalize b % 9223372036854775808 = m at *
    replace N := Lib.hid N
    replace R := Lib.hid R
    clear h1 h2 hb hp hm L H hl q
    go_enter Tryz.func5, Tryz.ntmps5
    go_wp2_with (first | (go_at_call 11; ((with_reducible refine (F.out _).mono ?_); rintro e w' ⟨rfl, rfl⟩)) | (go_at_call 12; ((with_reducible refine (FA.out _).mono ?_); rintro e w' ⟨rfl, rfl⟩)))
    refine C.out.mono ?_
    rintro _ w1 ⟨rfl, B⟩
    replace B := Lib.hid B
    clear C
    go_wp2_with fail
    refine (N.out _).mono ?_
    rintro _ w2 ⟨rfl, B2⟩
    replace B := Lib.hid (B.out.trans (B2.mono B.out.size))
    clear N B2
    go_wp2_with fail
    go_ret2
    rw [R.out]
    exact ⟨rfl, B.out⟩
end Go.Proofs.YtocnpcjpkieogaaGreatDoor
