/- Proved here: what the texts Hna, Wrv prove, one behind the other. -/
import Derived.Test.YtacinenddnfcbaaGreatJy3
import Derived.Test.YtacinenddnfcbaaGreatJy0
import Derived.Test.YtacinenddnfcbaaGreatJy5
import Derived.Test.YtacinenddnfcbaaGreatJy4

set_option maxRecDepth 100000
namespace Go.Proofs.YtacinenddnfcbaaGreat
open Go.ChangeShapes Go.WideShapes Go.ChangeAt Go.RowKit Ieee.Own

theorem word_mod (f : Ieee.Format) (s : Bool) (r : Nat) (h : r < f.signWeight) : f.word s r % f.signWeight = r := by
 unfold Ieee.Format.word
 cases s
 · simp [Nat.mod_eq_of_lt h]
 · simp [Nat.mod_eq_of_lt h]
theorem word_div (f : Ieee.Format) (s : Bool) (r : Nat) (h : r < f.signWeight) : (f.word s r / f.signWeight % 2 == 1) = s := by
 unfold Ieee.Format.word
 cases s
 · simp [Nat.div_eq_of_lt h]
 · simp [Nat.add_div_left r (show 0 < f.signWeight by omega), Nat.div_eq_of_lt h]
theorem least32 : Ieee.single.leastPlace = -149 := by decide +kernel
theorem least64 : Ieee.double.leastPlace = -1074 := by decide +kernel
theorem frac32 : Ieee.single.fractionBits = 23 := rfl
theorem frac64 : Ieee.double.fractionBits = 52 := rfl
theorem top32 : val 23 2139095040 = 2 ^ 277 := by decide +kernel
theorem top64 : val 52 9218868437227405312 = 2 ^ 2098 := by decide +kernel
theorem pow_chain (v a b c : Nat) (h : v < 2 ^ a) (hc : a + b ≤ c) : v * 2 ^ b < 2 ^ c := by
 have h2 : v * 2 ^ b < 2 ^ a * 2 ^ b := Nat.mul_lt_mul_of_pos_right h (Nat.two_pow_pos _)
 rw [← Nat.pow_add] at h2
 exact Nat.lt_of_lt_of_le h2 (Nat.pow_le_pow_right (by omega) hc)
theorem wide_num (f : Nat) (hf : f < 4294967296) (hn : f % 2147483648 < 2139095040) :
 ∃ W, W < 18446744073709551616 ∧ W % 9223372036854775808 < 9218868437227405312 ∧ floatToFloatBits .f32 f .f64 = some W ∧
   floatToFloatBits .f64 W .f32 = some f ∧ val 52 (W % 9223372036854775808) = val 23 (f % 2147483648) * 2 ^ 925 ∧ (W < 9223372036854775808 ↔ f < 2147483648) := by
 obtain ⟨s, hs⟩ : ∃ s, s = (f / Ieee.single.signWeight % 2 == 1) := ⟨_, rfl⟩
 have hfw : f = Ieee.single.word s (f % 2147483648) := by
  rw [hs]; unfold Ieee.Format.word; rw [sw32]
  by_cases h : f < 2147483648
  · have e1 : f / 2147483648 = 0 := by omega
    rw [e1]; simp; omega
  · have e1 : f / 2147483648 = 1 := by omega
    rw [e1]; simp; omega
 have hsf : s = false ↔ f < 2147483648 := by
  rw [hs, sw32]
  by_cases h : f < 2147483648
  · have e1 : f / 2147483648 = 0 := by omega
    rw [e1]; simp [h]
  · have e1 : f / 2147483648 = 1 := by omega
    rw [e1]; simp [h]
 have hread : Ieee.single.read f = .number s (mg 23 (f % 2147483648)) (-149 + (ex 23 (f % 2147483648) : Nat)) := by
  rw [read_num Ieee.single f (by rw [sw32, inf32]; exact hn), ← hs, least32, frac32, sw32]
 generalize f % 2147483648 = p at *
 have hmg := mg_lt 23 p
 obtain ⟨r, hr⟩ := rep 52 (val 23 p * 2 ^ 925) (mg 23 p) (ex 23 p + 925) (by unfold val; rw [Nat.pow_add, Nat.mul_assoc])
  (Nat.lt_of_lt_of_le hmg (Nat.pow_le_pow_right (by omega) (by omega)))
 have hri : r < 9218868437227405312 := by
  rw [← val_lt_iff 52, hr, top64]
  have : val 23 p < 2 ^ 277 := by rw [← top32]; exact val_lt hn
  exact pow_chain _ 277 925 2098 this (by omega)
 have hne : Ieee.double.nearest s (mg 23 p) (-149 + (ex 23 p : Nat)) = Ieee.double.word s r := by
  refine nearest_exact Ieee.double s _ _ r (ex 23 p + 925) 0 (by rw [inf64]; exact hri) ?_ (by rw [least64]; omega)
  rw [frac64, hr]; unfold val; rw [Nat.pow_add, ← Nat.mul_assoc, Nat.pow_zero, Nat.mul_one]
 have hrs : r < Ieee.double.signWeight := by rw [sw64]; omega
 have hWm : Ieee.double.word s r % Ieee.double.signWeight = r := word_mod _ _ _ hrs
 have hWd : (Ieee.double.word s r / Ieee.double.signWeight % 2 == 1) = s := word_div _ _ _ hrs
 have hrd : Ieee.double.read (Ieee.double.word s r) = .number s (mg 52 r) (-1074 + (ex 52 r : Nat)) := by
  rw [read_num Ieee.double _ (by rw [hWm, inf64]; exact hri), hWm, hWd, least64, frac64]
 have hps : p < Ieee.single.signWeight := by rw [sw32]; omega
 have hback : Ieee.single.nearest s (mg 52 r) (-1074 + (ex 52 r : Nat)) = Ieee.single.word s p := by
  refine nearest_exact Ieee.single s _ _ p (ex 52 r) 925 (by rw [inf32]; exact hn) ?_ (by rw [least32]; omega)
  rw [frac32]; exact hr
 have hrb : Ieee.single.read (Ieee.single.word s p) = .number s (mg 23 p) (-149 + (ex 23 p : Nat)) := by rw [← hfw]; exact hread
 refine ⟨Ieee.double.word s r, ?_, ?_, ?_, ?_, ?_, ?_⟩
 · unfold Ieee.Format.word; rw [sw64]; split <;> omega
 · rw [← sw64, hWm]; exact hri
 · unfold floatToFloatBits
   rw [if_neg (by decide)]
   simp only [FloatKind.decode, FloatKind.encode, FloatKind.format, hread, Ieee.Format.write, hne, hrd, Ieee.Datum.isInfinity]
   rfl
 · unfold floatToFloatBits
   rw [if_neg (by decide)]
   simp only [FloatKind.decode, FloatKind.encode, FloatKind.format, hrd, Ieee.Format.write, hback, hrb, Ieee.Datum.isInfinity]
   rw [← hfw]; rfl
 · rw [← sw64, hWm]; exact hr
 · rw [← hsf]; unfold Ieee.Format.word; rw [sw64]
   cases s <;> simp <;> omega
theorem wide_up : floatToFloatBits .f32 2139095040 .f64 = some 9218868437227405312 := by decide +kernel
theorem wide_down : floatToFloatBits .f32 4286578688 .f64 = some 18442240474082181120 := by decide +kernel
theorem back_up : floatToFloatBits .f64 9218868437227405312 .f32 = some 2139095040 := by decide +kernel
theorem back_down : floatToFloatBits .f64 18442240474082181120 .f32 = some 4286578688 := by decide +kernel
def wideW (f : Nat) : Nat := if 2139095040 < f % 2147483648 then 9221120237041090560 else (floatToFloatBits .f32 f .f64).getD 0
theorem wide_spec (f : Nat) (hf : f < 4294967296) (hn : ¬ 2139095040 < f % 2147483648) :
 wideW f < 18446744073709551616 ∧ wideW f % 9223372036854775808 ≤ 9218868437227405312 ∧ floatToFloatBits .f32 f .f64 = some (wideW f) ∧ floatToFloatBits .f64 (wideW f) .f32 = some f ∧
 (wideW f % 9223372036854775808 = 9218868437227405312 ↔ f % 2147483648 = 2139095040) ∧ (wideW f < 9223372036854775808 ↔ f < 2147483648) ∧
 (f % 2147483648 < 2139095040 → val 52 (wideW f % 9223372036854775808) = val 23 (f % 2147483648) * 2 ^ 925) := by
 by_cases h : f % 2147483648 < 2139095040
 · obtain ⟨W, h1, h2, h3, h4, h5, h6⟩ := wide_num f hf h
   have e : wideW f = W := by unfold wideW; rw [if_neg hn, h3]; rfl
   rw [e]
   exact ⟨h1, by omega, h3, h4, by omega, h6, fun _ => h5⟩
 · have h2 : f = 2139095040 ∨ f = 4286578688 := by omega
   rcases h2 with rfl | rfl
   · have e : wideW 2139095040 = 9218868437227405312 := by unfold wideW; rw [if_neg hn, wide_up]; rfl
     rw [e]
     exact ⟨by omega, by omega, wide_up, back_up, by omega, by omega, fun h' => absurd h' h⟩
   · have e : wideW 4286578688 = 18442240474082181120 := by unfold wideW; rw [if_neg hn, wide_down]; rfl
     rw [e]
     exact ⟨by omega, by omega, wide_down, back_down, by omega, by omega, fun h' => absurd h' h⟩
theorem wide_any (f : Nat) (hf : f < 4294967296) (hn : ¬ 2139095040 < f % 2147483648) (w : World) :
 Calls Tryz.prog 224 #[.float .f32 f] w fun e w' => e = .returned (.float .f64 (wideW f)) ∧ w = w' := by
 obtain ⟨a1, a2, a3, -, -, -, -⟩ := wide_spec f hf hn
 have hc : ∀ w, (convert 169 22 (.float .f32 f)).run Tryz.prog w = .ok (.float .f64 (wideW f)) w := fun w => run_convert_float_float w 169 22 .f32 .f64 f _ (by rw [Tryz.underlying169]; rfl) Tryz.underlying22 a3
 have C := fun w => canon_num (wideW f) a1 (decide_eq_false (by omega)) w
 clear a1 a2 a3 hn hf
 generalize wideW f = W at *
 go_enter Tryz.func224, Tryz.ntmps224
 go_wp2_with (go_at_call 259; ((with_reducible refine (C _).mono ?_); rintro e w' ⟨rfl, rfl⟩))
 go_ret
 exact ⟨rfl, rfl⟩
theorem conv_nan (f : Nat) (h : 2139095040 < f % 2147483648) (w : World) :
 ∃ X, X < 18446744073709551616 ∧ nanB X = true ∧ (convert 169 22 (.float .f32 f)).run Tryz.prog w = .ok (.float .f64 X) w.drew := by
 have hr := read_nan Ieee.single (by decide) f (by rw [sw32, inf32]; exact h)
 have key : ∀ t : Nat, (t % 2) * 2 ^ 63 + 0x7ff0000000000000 + 1 + (t / 2) % (2 ^ 52 - 1) < 18446744073709551616 ∧ nanB ((t % 2) * 2 ^ 63 + 0x7ff0000000000000 + 1 + (t / 2) % (2 ^ 52 - 1)) = true := by
  intro t
  constructor
  · omega
  · unfold nanB; rw [decide_eq_true_eq]
    have hv : (t / 2) % (2 ^ 52 - 1) < 2 ^ 52 - 1 := Nat.mod_lt _ (by omega)
    generalize (t / 2) % (2 ^ 52 - 1) = v at *
    have hu : t % 2 = 0 ∨ t % 2 = 1 := by omega
    rcases hu with hu | hu <;> rw [hu] <;> omega
 refine ⟨_, (key (w.tape w.drawn (.nanConv .f64 f))).1, (key (w.tape w.drawn (.nanConv .f64 f))).2, ?_⟩
 simp [convert, run_underlying Tryz.underlying169, run_underlying Tryz.underlying22, Conv.floatToFloat, FloatKind.decode, FloatKind.format, hr, Question.forced, Question.cut]

theorem wide_nan (f : Nat) (h : 2139095040 < f % 2147483648) (w : World) :
 Calls Tryz.prog 224 #[.float .f32 f] w fun e w' => e = .returned (.float .f64 9221120237041090560) ∧ w.drew = w' := by
 obtain ⟨X, h1, h2, h3⟩ := conv_nan f h w
 have C := fun w => canon_nan X h1 h2 w
 clear h1 h2 h
 go_enter Tryz.func224, Tryz.ntmps224
 go_wp2_with (go_at_call 259; ((with_reducible refine (C _).mono ?_); rintro e w' ⟨rfl, rfl⟩))
 go_ret
 exact ⟨rfl, rfl⟩

theorem wide_all (f : Nat) (hf : f < 4294967296) (w : World) : Calls Tryz.prog 224 #[.float .f32 f] w fun e w' => e = .returned (.float .f64 (wideW f)) ∧ Drawn w w' := by
 by_cases hn : 2139095040 < f % 2147483648
 · refine (wide_nan f hn w).mono ?_
   rintro e w' ⟨rfl, rfl⟩
   exact ⟨by unfold wideW; rw [if_pos hn], ⟨1, rfl⟩⟩
 · refine (wide_any f hf hn w).mono ?_
   rintro e w' ⟨rfl, rfl⟩
   exact ⟨rfl, Drawn.refl _⟩
theorem wideW_lt (f : Nat) (hf : f < 4294967296) : wideW f < 18446744073709551616 := by
 by_cases hn : 2139095040 < f % 2147483648
 · unfold wideW; rw [if_pos hn]; omega
 · exact (wide_spec f hf hn).1
end Go.Proofs.YtacinenddnfcbaaGreat

namespace Go.Proofs.YtacinenddnfcbaaGreat
open Go.ChangeShapes Go.WideShapes Go.ChangeAt Go.RowKit Ieee.Own

structure BV (w : World) (g : Nat) (us : List Value) : Prop where
 lt : g < w.heap.size
 at_ : ∀ i u, us[i]? = some u → w.cell? ⟨g, i, none⟩ = some u
 fr : ∀ i u, us[i]? = some u → w.frozen? ⟨g, i, none⟩ = false
def objV (t : TypeId) (us : List Value) : Obj := .cells us.toArray t (0, 0)
theorem BV.on {w w' : World} {g : Nat} {us : List Value} (b : BV w g us) (h : Below w.heap.size w w') : BV w' g us :=
 ⟨Nat.lt_of_lt_of_le b.lt h.size, fun i u e => (cell_on h _ b.lt).trans (b.at_ i u e), fun i u e => (frozen_on h _ b.lt).trans (b.fr i u e)⟩
theorem BV.box (w : World) (t : TypeId) (us : List Value) : BV (w.alloc (objV t us)) w.heap.size us := by
 have S : Blocks w [objV t us] (w.alloc (objV t us)) := (Blocks.nil w).alloc (by simp) _
 unfold objV at S
 refine ⟨by simp, fun i u e => (S.cell 0 rfl i w.heap.size rfl).trans (by simp [e]), fun i u e => S.free 0 rfl i w.heap.size rfl⟩
theorem BV.set1 {w : World} {g k : Nat} {x : Value} {us : List Value} (b : BV w g us) (hk : us[k]? = some x) (v : Value) : BV (w.setCell ⟨g, k, none⟩ v) g (us.set k v) := by
 have hl := (List.getElem?_eq_some_iff.1 hk).1
 refine ⟨by simpa using b.lt, fun i u e => ?_, fun i u e => ?_⟩
 · by_cases h : k = i
   · subst h
     rw [List.getElem?_set_self hl] at e
     obtain rfl := Option.some.inj e
     exact World.cell?_setCell_same _ _ _ (b.at_ _ _ hk)
   · rw [List.getElem?_set_ne h] at e
     rw [World.cell?_setCell_other _ _ _ _ (by simp)]
     exact b.at_ i u e
 · rw [World.frozen?_setCell]
   by_cases h : k = i
   · subst h; exact b.fr _ _ hk
   · rw [List.getElem?_set_ne h] at e; exact b.fr i u e
theorem BV.other1 {w : World} {g h k : Nat} {us : List Value} (b : BV w g us) (hg : g ≠ h) (v : Value) : BV (w.setCell ⟨h, k, none⟩ v) g us := by
 refine ⟨by simpa using b.lt, fun i u e => ?_, fun i u e => ?_⟩
 · rw [World.cell?_setCell_other _ _ _ _ (by simp)]; exact b.at_ i u e
 · rw [World.frozen?_setCell]; exact b.fr i u e
def putV (w : World) (g : Nat) : Nat → List Value → World
 | _, [] => w
 | k, v :: vs => putV (w.setCell ⟨g, k, none⟩ v) g (k + 1) vs
def setV : List Value → Nat → List Value → List Value
 | us, _, [] => us
 | us, k, v :: vs => setV (us.set k v) (k + 1) vs
theorem BV.put {g : Nat} : ∀ (vs : List Value) {w : World} {us : List Value} (k : Nat), BV w g us → k + vs.length ≤ us.length → BV (putV w g k vs) g (setV us k vs)
 | [], _, _, _, b, _ => b
 | v :: vs, w, us, k, b, h => by
   simp only [List.length_cons] at h
   obtain ⟨x, hx⟩ : ∃ x, us[k]? = some x := ⟨us[k]'(by omega), List.getElem?_eq_getElem (by omega)⟩
   exact BV.put vs (k + 1) (b.set1 hx v) (by simp; omega)
theorem BV.other {g h : Nat} {us : List Value} (hg : g ≠ h) : ∀ (vs : List Value) {w : World} (k : Nat), BV w g us → BV (putV w h k vs) g us
 | [], _, _, b => b
 | v :: vs, _, k, b => BV.other hg vs (k + 1) (b.other1 hg v)
theorem putV_below {B g : Nat} {u : World} (hg : B ≤ g) : ∀ (vs : List Value) {w : World} (k : Nat), Below B u w → Below B u (putV w g k vs)
 | [], _, _, b => b
 | _ :: vs, _, k, b => putV_below hg vs (k + 1) (b.setCell hg _)
structure Kv (w0 : World) (L : List (Option (Nat × List Value))) (w : World) : Prop where
 old : Below w0.heap.size w0 w
 blk : ∀ (j g : Nat) (us : List Value), L[j]? = some (some (g, us)) → w0.heap.size ≤ g ∧ BV w g us
 inj : ∀ (i j g : Nat) (us vs : List Value), L[i]? = some (some (g, us)) → L[j]? = some (some (g, vs)) → i = j
theorem Kv.nil (w : World) : Kv w [] w := ⟨Below.refl _ w, fun j g us h => by simp at h, fun i j g us vs h => by simp at h⟩
theorem Kv.at_ {w0 w : World} {L : List (Option (Nat × List Value))} (C : Kv w0 L w) (j : Nat) {g : Nat} {us : List Value} (hj : L[j]? = some (some (g, us))) : BV w g us := (C.blk j g us hj).2
theorem Kv.on {w0 w w' : World} {L : List (Option (Nat × List Value))} (C : Kv w0 L w) (h : Below w.heap.size w w') : Kv w0 L w' :=
 ⟨C.old.trans (h.mono C.old.size), fun j g us hj => ⟨(C.blk j g us hj).1, (C.at_ j hj).on h⟩, C.inj⟩
theorem Kv.draws {w0 w : World} {L : List (Option (Nat × List Value))} (C : Kv w0 L w) : Kv w0 L w.drew :=
 ⟨C.old.drew, fun j g us h => ⟨(C.blk j g us h).1, ⟨(C.at_ j h).1, (C.at_ j h).2, (C.at_ j h).3⟩⟩, C.inj⟩
theorem Kv.make {w0 w : World} {L : List (Option (Nat × List Value))} (C : Kv w0 L w) (j : Nat) (hj : L[j]? = some none) (t : TypeId) (us : List Value) : Kv w0 (L.set j (some (w.heap.size, us))) (w.alloc (objV t us)) := by
 have hb : Below w.heap.size w (w.alloc (objV t us)) := (Below.refl _ w).alloc (Nat.le_refl _) _
 have hl := (List.getElem?_eq_some_iff.1 hj).1
 have old : ∀ i g vs, i ≠ j → (L.set j (some (w.heap.size, us)))[i]? = some (some (g, vs)) → L[i]? = some (some (g, vs)) := fun i g vs hi h => by
  rwa [List.getElem?_set_ne (Ne.symm hi)] at h
 have new : ∀ g vs, (L.set j (some (w.heap.size, us)))[j]? = some (some (g, vs)) → g = w.heap.size ∧ vs = us := fun g vs h => by
  rw [List.getElem?_set_self hl] at h
  simp at h
  exact ⟨h.1.symm, h.2.symm⟩
 refine ⟨C.old.trans (hb.mono C.old.size), fun i g vs hi => ?_, fun i k g vs ws hi hk => ?_⟩
 · by_cases e : i = j
   · subst e
     obtain ⟨rfl, rfl⟩ := new _ _ hi
     exact ⟨C.old.size, BV.box w t vs⟩
   · have h := old _ _ _ e hi
     exact ⟨(C.blk i g vs h).1, (C.at_ i h).on hb⟩
 · by_cases e : i = j <;> by_cases f : k = j
   · omega
   · subst e
     have := (C.at_ k (old _ _ _ f hk)).lt
     have := (new _ _ hi).1
     omega
   · subst f
     have := (C.at_ i (old _ _ _ e hi)).lt
     have := (new _ _ hk).1
     omega
   · exact C.inj i k g vs ws (old _ _ _ e hi) (old _ _ _ f hk)
theorem Kv.more {w0 w : World} {L : List (Option (Nat × List Value))} (C : Kv w0 L w) : Kv w0 (L ++ [none]) w := by
 have key : ∀ i g vs, (L ++ [none])[i]? = some (some (g, vs)) → L[i]? = some (some (g, vs)) := fun i g vs h => by
  by_cases hi : i < L.length
  · rwa [List.getElem?_append_left hi] at h
  · have := (List.getElem?_eq_some_iff.1 h).1
    simp at this
    obtain rfl : i = L.length := by omega
    simp at h
 exact ⟨C.old, fun j g us h => C.blk j g us (key _ _ _ h), fun i j g us vs h k => C.inj i j g us vs (key _ _ _ h) (key _ _ _ k)⟩
theorem Kv.nones {w0 w : World} {L : List (Option (Nat × List Value))} (C : Kv w0 L w) : ∀ n, Kv w0 (L ++ List.replicate n none) w
 | 0 => by simpa using C
 | n + 1 => by
   have := (C.nones n).more
   rwa [List.append_assoc, ← List.replicate_succ'] at this
theorem Kv.new {w0 w : World} {L : List (Option (Nat × List Value))} (C : Kv w0 L w) (t : TypeId) (us : List Value) : Kv w0 (L ++ [some (w.heap.size, us)]) (w.alloc (objV t us)) := by
 have := C.more.make L.length (by simp) t us
 simpa using this
theorem Kv.put {w0 w : World} {L : List (Option (Nat × List Value))} (C : Kv w0 L w) (j : Nat) {g : Nat} {us : List Value} (hj : L[j]? = some (some (g, us))) (k : Nat) (vs : List Value) (hk : k + vs.length ≤ us.length) : Kv w0 (L.set j (some (g, setV us k vs))) (putV w g k vs) := by
 have hl := (List.getElem?_eq_some_iff.1 hj).1
 have hg := C.blk j g us hj
 have old : ∀ i h ws, i ≠ j → (L.set j (some (g, setV us k vs)))[i]? = some (some (h, ws)) → L[i]? = some (some (h, ws)) := fun i h ws hi e => by
  rwa [List.getElem?_set_ne (Ne.symm hi)] at e
 have new : ∀ h ws, (L.set j (some (g, setV us k vs)))[j]? = some (some (h, ws)) → h = g ∧ ws = setV us k vs := fun h ws e => by
  rw [List.getElem?_set_self hl] at e
  simp at e
  exact ⟨e.1.symm, e.2.symm⟩
 have back : ∀ i h ws, (L.set j (some (g, setV us k vs)))[i]? = some (some (h, ws)) → ∃ ws', L[i]? = some (some (h, ws')) := fun i h ws e => by
  by_cases q : i = j
  · subst q
    obtain ⟨rfl, -⟩ := new _ _ e
    exact ⟨_, hj⟩
  · exact ⟨_, old _ _ _ q e⟩
 refine ⟨putV_below hg.1 vs k C.old, fun i h ws hi => ?_, fun i m h ws xs hi hm => ?_⟩
 · by_cases q : i = j
   · subst q
     obtain ⟨rfl, rfl⟩ := new _ _ hi
     exact ⟨hg.1, hg.2.put vs k hk⟩
   · have e := old _ _ _ q hi
     refine ⟨(C.blk i h ws e).1, BV.other (fun z => ?_) vs k (C.at_ i e)⟩
     subst z
     exact q (C.inj i j _ _ _ e hj)
 · obtain ⟨a, ha⟩ := back _ _ _ hi
   obtain ⟨b, hb⟩ := back _ _ _ hm
   exact C.inj i m h _ _ ha hb

theorem Kv.own {w0 w w' : World} {L : List (Option (Nat × List Value))} (C : Kv w0 L w) (hb : Below w.heap.size w w') {g : Nat} {us : List Value} (hg : w.heap.size ≤ g) (b : BV w' g us) : Kv w0 (L ++ [some (g, us)]) w' := by
 have C' := C.on hb
 have key : ∀ i h vs, (L ++ [some (g, us)])[i]? = some (some (h, vs)) → L[i]? = some (some (h, vs)) ∨ (i = L.length ∧ h = g ∧ vs = us) := fun i h vs hi => by
  by_cases q : i < L.length
  · rw [List.getElem?_append_left q] at hi; exact .inl hi
  · have := (List.getElem?_eq_some_iff.1 hi).1
    simp at this
    obtain rfl : i = L.length := by omega
    simp at hi
    exact .inr ⟨rfl, hi.1.symm, hi.2.symm⟩
 have far : ∀ i h vs, L[i]? = some (some (h, vs)) → h ≠ g := fun i h vs hi e => by
  have := (C.at_ i hi).lt
  omega
 refine ⟨C'.old, fun i h vs hi => ?_, fun i k h vs ws hi hk => ?_⟩
 · rcases key _ _ _ hi with q | ⟨rfl, rfl, rfl⟩
   · exact C'.blk i h vs q
   · exact ⟨Nat.le_trans C.old.size hg, b⟩
 · rcases key _ _ _ hi with q | ⟨rfl, rfl, rfl⟩ <;> rcases key _ _ _ hk with r | ⟨rfl, e, rfl⟩
   · exact C.inj i k h vs ws q r
   · exact absurd e (far _ _ _ q)
   · exact absurd rfl (far _ _ _ r)
   · rfl

theorem kv1 (w : World) (t : TypeId) (us : List Value) : Kv w [some (w.heap.size, us)] (w.alloc (objV t us)) := (Kv.nil w).new t us
theorem Kv.and {w0 w : World} {L : List (Option (Nat × List Value))} {n : Nat} (C : Kv w0 L w) (h : w.heap.size = n) (t : TypeId) (us : List Value) : Kv w0 (L ++ [some (n, us)]) (w.alloc (objV t us)) := by
 subst h; exact C.new t us
theorem kv2 (w : World) (t t' : TypeId) (us vs : List Value) : Kv w [some (w.heap.size, us), some (w.heap.size + 1, vs)] ((w.alloc (objV t us)).alloc (objV t' vs)) := (kv1 w t us).and (by simp) t' vs
theorem kv3 (w : World) (t t' t'' : TypeId) (us vs xs : List Value) : Kv w [some (w.heap.size, us), some (w.heap.size + 1, vs), some (w.heap.size + 1 + 1, xs)] (((w.alloc (objV t us)).alloc (objV t' vs)).alloc (objV t'' xs)) := (kv2 w t t' us vs).and (by simp) t'' xs
structure Sv where
 i : Nat
 j : Nat
 k : Nat
 vs : List Value
structure Av where
 i : Nat
 j : Nat
 t : TypeId
 us : List Value
def storedV (sts : List Sv) (L : List (Option Value)) (j : Nat) (us vs : List Value) : Prop :=
 (∀ st ∈ sts, st.j = j → doneL L st.i → vs = setV us st.k st.vs) ∧ ((∀ st ∈ sts, st.j = j → ¬ doneL L st.i) → vs = us)
structure CurV (C D : List (Option (Nat × List Value))) (als : List Av) (sts : List Sv) (L : List (Option Value)) : Prop where
 len : D.length = C.length
 old : ∀ j, (∀ al ∈ als, al.j ≠ j) → (∃ g us vs, C[j]? = some (some (g, us)) ∧ D[j]? = some (some (g, vs)) ∧ storedV sts L j us vs) ∨ ((∀ g us, C[j]? ≠ some (some (g, us))) ∧ D[j]? = C[j]?)
 new : ∀ al ∈ als, (¬ doneL L al.i ∧ D[al.j]? = some none) ∨ ∃ h vs, L[al.i]? = some (some (ptrV h)) ∧ D[al.j]? = some (some (h, vs)) ∧ storedV sts L al.j al.us vs

theorem storedV_same {sts : List Sv} {L : List (Option Value)} {i j : Nat} {v : Value} {us vs : List Value} (hn : L[i]? = some none) (hs : ∀ st ∈ sts, st.j = j → st.i ≠ i) (h : storedV sts L j us vs) : storedV sts (L.set i (some v)) j us vs :=
 ⟨fun st hst e d => h.1 st hst e (by
  rcases (done_set hn _).1 d with q | q
  · exact absurd q (hs st hst e)
  · exact q), fun k => h.2 fun st hst e d => k st hst e ((done_set hn _).2 (.inr d))⟩
theorem storedV_now {sts : List Sv} {L : List (Option Value)} {st : Sv} {v : Value} {us vs : List Value} (hst : st ∈ sts) (hn : L[st.i]? = some none) (hi : ∀ st ∈ sts, ∀ st' ∈ sts, (st.j = st'.j ∨ st.i = st'.i) → st = st') (h : storedV sts L st.j us vs) : vs = us ∧ storedV sts (L.set st.i (some v)) st.j us (setV us st.k st.vs) := by
 have nd : ¬ doneL L st.i := fun ⟨v, hv⟩ => by rw [hn] at hv; simp at hv
 refine ⟨h.2 fun st' hst' e d => ?_, fun st' hst' e _ => by rw [hi st' hst' st hst (.inl e)], fun k => absurd ((done_set hn _).2 (.inl rfl)) (k st hst rfl)⟩
 rw [hi st' hst' st hst (.inl e)] at d
 exact nd d

section
variable {ops : Array Oper} {Q : Exit → Act → World → Prop}
theorem wp_region_v {id : Nat} {a0 : Act} {w w0 : World} {C : List (Option (Nat × List Value))} (als : List Av) (sts : List Sv) (dv : List Value) (ds : List (Option Tmp))
 (hm : Tryz.prog.follows .mixedOrders = true) (hds : ops.toList.map (·.dst) = ds) (hap : apartL ds = true) (hb : backward ops = true) (hg : plainL ops = true) (hC : Kv w0 C w)
 (ha : ∀ al ∈ als, C[al.j]? = some none) (haj : ∀ al ∈ als, ∀ al' ∈ als, (al.j = al'.j ∨ al.i = al'.i) → al = al') (hai : ∀ al ∈ als, al.i < ops.size)
 (hsi : ∀ st ∈ sts, ∀ st' ∈ sts, (st.j = st'.j ∨ st.i = st'.i) → st = st') (hss : ∀ st ∈ sts, st.i < ops.size) (hsa : ∀ st ∈ sts, ∀ al ∈ als, st.i ≠ al.i)
 (hsw : ∀ st ∈ sts, ∀ al ∈ als, st.j = al.j → waitsAt ops st.i al.i = true)
 (htg : ∀ st ∈ sts, (∃ g us, C[st.j]? = some (some (g, us)) ∧ st.k + st.vs.length ≤ us.length) ∨ ∃ al ∈ als, al.j = st.j ∧ st.k + st.vs.length ≤ al.us.length)
 (alloc : ∀ al ∈ als, ∀ (o : Oper) (ρ : Operand → Value) (W : World), ops[al.i]? = some o → (execOp ρ o).run Tryz.prog W = .ok (.value (ptrV W.heap.size)) (W.alloc (objV al.t al.us)))
 (step : ∀ (L : List (Option Value)) (W : World) (i : Nat) (o : Oper), ops[i]? = some o → (∀ st ∈ sts, st.i ≠ i) → (∀ al ∈ als, al.i ≠ i) → (∀ k, waits o k = true → (∀ al ∈ als, al.i ≠ k) → L[k]? = some (some (dv.getD k undef))) →
  (∀ (j g : Nat) (us : List Value), C[j]? = some (some (g, us)) → (∀ st ∈ sts, st.j = j → needs ops ops.size st.i i = true) → BV W g us) → Below w0.heap.size w0 W → Came o (puts ds L a0) W (dv.getD i undef))
 (store : ∀ st ∈ sts, ∀ (L : List (Option Value)) (W : World) (o : Oper) (h : Nat) (us : List Value), ops[st.i]? = some o → (∀ k, waits o k = true → (∀ al ∈ als, al.i ≠ k) → L[k]? = some (some (dv.getD k undef))) →
  (∀ al ∈ als, al.j = st.j → L[al.i]? = some (some (ptrV h)) ∧ us = al.us) → (∀ g vs, C[st.j]? = some (some (g, vs)) → h = g ∧ us = vs) → BV W h us →
  (execOp (puts ds L a0).eval o).run Tryz.prog W = .ok .skip (putV W h st.k st.vs) ∧ dv.getD st.i undef = undef)
 (fin : ∀ (L : List (Option Value)) (D : List (Option (Nat × List Value))) (W : World), L.length = ops.size → (∀ i, i < ops.size → (∀ al ∈ als, al.i ≠ i) → L[i]? = some (some (dv.getD i undef))) → D.length = C.length →
  (∀ j, (∀ st ∈ sts, st.j ≠ j) → (∀ al ∈ als, al.j ≠ j) → D[j]? = C[j]?) →
  (∀ st ∈ sts, ∀ g us, C[st.j]? = some (some (g, us)) → D[st.j]? = some (some (g, setV us st.k st.vs))) →
  (∀ al ∈ als, ∃ h, L[al.i]? = some (some (ptrV h)) ∧ (∀ st ∈ sts, st.j = al.j → D[al.j]? = some (some (h, setV al.us st.k st.vs))) ∧ ((∀ st ∈ sts, st.j ≠ al.j) → D[al.j]? = some (some (h, al.us)))) →
  Kv w0 D W → Q .normal (puts ds L a0) W) : (Code.region id ops true).wp Tryz.prog Q a0 w := by
 refine wp_region_inv hm ds hds hap hb hg (fun L W => (∀ i v, (∀ al ∈ als, al.i ≠ i) → L[i]? = some (some v) → v = dv.getD i undef) ∧ Closed ops L ∧ ∃ D, CurV C D als sts L ∧ Kv w0 D W) ?_ ?_ ?_
 · have nd : ∀ i, ¬ doneL (nones ops.size) i := fun i ⟨v, hv⟩ => absurd hv (nones_get _ _ _)
   refine ⟨fun i v _ h => absurd h (nones_get _ _ _), Closed.none _ _, C, ⟨rfl, fun j _ => ?_, fun al hal => .inl ⟨nd _, ha al hal⟩⟩, hC.draws⟩
   by_cases q : ∃ g us, C[j]? = some (some (g, us))
   · obtain ⟨g, us, e⟩ := q
     exact .inl ⟨g, us, us, e, e, fun st _ _ d => absurd d (nd _), fun _ => rfl⟩
   · exact .inr ⟨fun g us e => q ⟨g, us, e⟩, rfl⟩
 · intro L W i o hL ho hn hd ⟨hdet, hcl, D, hD, hK⟩
   have hd' : ∀ k, waits o k = true → (∀ al ∈ als, al.i ≠ k) → L[k]? = some (some (dv.getD k undef)) := fun k hk hka => by
    unfold waits at hk
    rw [List.any_eq_true] at hk
    obtain ⟨e, he, h2⟩ := hk
    simp only [Bool.and_eq_true, beq_iff_eq] at h2
    obtain ⟨v, hv⟩ := hd e (Array.mem_toList_iff.1 he) h2.2
    rw [h2.1] at hv
    rw [hv, hdet k v hka hv]
   have hil : i < L.length := (List.getElem?_eq_some_iff.1 hn).1
   have key : ∀ v, ((∀ al ∈ als, al.i ≠ i) → v = dv.getD i undef) → ∀ k u, (∀ al ∈ als, al.i ≠ k) → (L.set i (some v))[k]? = some (some u) → u = dv.getD k undef := fun v hv k u hka hk => by
    by_cases hik : i = k
    · subst hik
      rw [List.getElem?_set_self hil] at hk
      rw [← Option.some.inj (Option.some.inj hk)]; exact hv hka
    · rw [List.getElem?_set_ne hik] at hk; exact hdet k u hka hk
   have nd : ¬ doneL L i := fun ⟨v, hv⟩ => by rw [hn] at hv; simp at hv
   by_cases ea : ∃ al ∈ als, al.i = i
   · obtain ⟨al, hal, rfl⟩ := ea
     have r := alloc al hal o (puts ds L a0).eval W ho
     have hDj : D[al.j]? = some none := by
        rcases hD.new al hal with ⟨-, e⟩ | ⟨h, vs, e, -⟩
        · exact e
        · rw [hn] at e; simp at e
     have hjl : al.j < D.length := (List.getElem?_eq_some_iff.1 hDj).1
     unfold Oper.wp; rw [r]
     refine ⟨_, rfl, key _ (fun z => absurd rfl (z al hal)), hcl.set ho hn hd, D.set al.j (some (W.heap.size, al.us)), ⟨by simp [hD.len], fun j hj => ?_, fun al' hal' => ?_⟩, hK.make al.j hDj al.t al.us⟩
     · have hne : al.j ≠ j := hj al hal
       rw [List.getElem?_set_ne hne]
       rcases hD.old j hj with ⟨g, us, vs, e1, e2, e3⟩ | e
       · exact .inl ⟨g, us, vs, e1, e2, storedV_same hn (fun st hst _ => hsa st hst al hal) e3⟩
       · exact .inr e
     · by_cases q : al' = al
       · subst q
         refine .inr ⟨W.heap.size, al'.us, ?_, by rw [List.getElem?_set_self hjl], fun st hst e d => ?_, fun _ => rfl⟩
         · rw [List.getElem?_set_self hil]
         · rcases (done_set hn _).1 d with z | z
           · exact absurd z (hsa st hst al' hal)
           · exact absurd (hcl _ _ z (hsw st hst al' hal e)) nd
       · have hne : al.j ≠ al'.j := fun e => q (haj al' hal' al hal (.inl e.symm))
         have hni : al.i ≠ al'.i := fun e => q (haj al' hal' al hal (.inr e.symm))
         rw [List.getElem?_set_ne hne, List.getElem?_set_ne hni]
         rcases hD.new al' hal' with ⟨e1, e2⟩ | ⟨h, vs, e1, e2, e3⟩
         · exact .inl ⟨fun z => ((done_set hn _).1 z).elim (fun z => hni z.symm) e1, e2⟩
         · exact .inr ⟨h, vs, e1, e2, storedV_same hn (fun st hst _ => hsa st hst al hal) e3⟩
   · have ha' : ∀ al ∈ als, al.i ≠ i := fun al hal e => ea ⟨al, hal, e⟩
     by_cases es : ∃ st ∈ sts, st.i = i
     · obtain ⟨st, hst, rfl⟩ := es
       -- the block that is storedV into
       have B : ∃ h us, D[st.j]? = some (some (h, us)) ∧ st.k + st.vs.length ≤ us.length ∧ (∀ al ∈ als, al.j = st.j → L[al.i]? = some (some (ptrV h)) ∧ us = al.us) ∧ (∀ g vs, C[st.j]? = some (some (g, vs)) → h = g ∧ us = vs) := by
         by_cases q : ∃ al ∈ als, al.j = st.j
         · obtain ⟨al, hal, e⟩ := q
           have da : doneL L al.i := by
             have hs := hsw st hst al hal e.symm
             unfold waitsAt at hs
             rw [ho] at hs
             simp only [Option.map_some, Option.getD_some] at hs
             unfold waits at hs
             rw [List.any_eq_true] at hs
             obtain ⟨e', he, h2⟩ := hs
             simp only [Bool.and_eq_true, beq_iff_eq] at h2
             have := hd e' (Array.mem_toList_iff.1 he) h2.2
             rw [h2.1] at this
             exact this
           rcases hD.new al hal with ⟨z, -⟩ | ⟨h, vs, e1, e2, e3⟩
           · exact absurd da z
           · have hu := (storedV_now (v := undef) hst hn hsi (e ▸ e3)).1
             subst hu
             refine ⟨h, al.us, e ▸ e2, ?_, fun al' hal' e' => ?_, fun g vs' e' => ?_⟩
             · rcases htg st hst with ⟨g, us, c, -⟩ | ⟨al', hal', e', c⟩
               · rw [← e, ha al hal] at c; simp at c
               · rw [haj al' hal' al hal (.inl (by omega))] at c; exact c
             · rw [haj al' hal' al hal (.inl (by omega))]; exact ⟨e1, rfl⟩
             · rw [← e, ha al hal] at e'; simp at e'
         · have q' : ∀ al ∈ als, al.j ≠ st.j := fun al hal e => q ⟨al, hal, e⟩
           rcases htg st hst with ⟨g, us, c, c2⟩ | ⟨al', hal', e', -⟩
           · rcases hD.old st.j q' with ⟨g', us', vs', e1, e2, e3⟩ | ⟨e1, -⟩
             · rw [c] at e1
               simp at e1
               obtain ⟨rfl, rfl⟩ := e1
               have hu := (storedV_now (v := undef) hst hn hsi e3).1
               subst hu
               refine ⟨g, vs', e2, c2, fun al hal e => absurd e (q' al hal), fun g2 vs2 e => ?_⟩
               rw [c] at e
               simp at e
               exact ⟨e.1, e.2⟩
             · exact absurd c (e1 g us)
           · exact absurd e' (q' al' hal')
       obtain ⟨h, us, hDj, hk, b1, b2⟩ := B
       obtain ⟨r, u⟩ := store st hst L W o h us ho hd' b1 b2 (hK.at_ st.j hDj)
       have hjl : st.j < D.length := (List.getElem?_eq_some_iff.1 hDj).1
       unfold Oper.wp; rw [r]
       refine ⟨undef, rfl, key _ (fun _ => u.symm), hcl.set ho hn hd, D.set st.j (some (h, setV us st.k st.vs)), ⟨by simp [hD.len], fun j hj => ?_, fun al hal => ?_⟩, hK.put st.j hDj st.k st.vs hk⟩
       · by_cases e : st.j = j
         · subst e
           rcases hD.old _ hj with ⟨g, us', vs', e1, e2, e3⟩ | ⟨e1, e2⟩
           · rw [hDj] at e2
             simp at e2
             obtain ⟨rfl, rfl⟩ := e2
             obtain ⟨rfl, S⟩ := storedV_now (v := undef) hst hn hsi e3
             exact .inl ⟨_, _, _, e1, by rw [List.getElem?_set_self hjl], S⟩
           · rw [hDj] at e2
             exact absurd e2.symm (e1 h us)
         · rw [List.getElem?_set_ne e]
           rcases hD.old j hj with ⟨g, us', vs', e1, e2, e3⟩ | e'
           · exact .inl ⟨g, us', vs', e1, e2, storedV_same hn (fun st' hst' e' z => e (by rw [← hsi st' hst' st hst (.inr z)]; exact e')) e3⟩
           · exact .inr e'
       · have hni : st.i ≠ al.i := hsa st hst al hal
         rw [List.getElem?_set_ne hni]
         by_cases e : st.j = al.j
         · rcases hD.new al hal with ⟨-, e2⟩ | ⟨h', vs', e1, e2, e3⟩
           · rw [← e, hDj] at e2; simp at e2
           · rw [← e, hDj] at e2
             simp at e2
             obtain ⟨rfl, rfl⟩ := e2
             rw [← e] at e3 ⊢
             obtain ⟨rfl, S⟩ := storedV_now (v := undef) hst hn hsi e3
             exact .inr ⟨_, _, e1, by rw [List.getElem?_set_self hjl], S⟩
         · rw [List.getElem?_set_ne e]
           rcases hD.new al hal with ⟨e1, e2⟩ | ⟨h', vs', e1, e2, e3⟩
           · exact .inl ⟨fun z => ((done_set hn _).1 z).elim (fun z => hni z.symm) e1, e2⟩
           · exact .inr ⟨h', vs', e1, e2, storedV_same hn (fun st' hst' e' z => e (by rw [← hsi st' hst' st hst (.inr z)]; exact e')) e3⟩
     · have hs' : ∀ st ∈ sts, st.i ≠ i := fun st hst e => es ⟨st, hst, e⟩
       have hB : ∀ (j g : Nat) (us : List Value), C[j]? = some (some (g, us)) → (∀ st ∈ sts, st.j = j → needs ops ops.size st.i i = true) → BV W g us := fun j g us h hh => by
         refine hK.at_ j ?_
         have q : ∀ al ∈ als, al.j ≠ j := fun al hal e => by
           have := ha al hal
           rw [e, h] at this
           simp at this
         rcases hD.old j q with ⟨g', us', vs', e1, e2, e3⟩ | ⟨e1, -⟩
         · rw [h] at e1
           simp at e1
           obtain ⟨rfl, rfl⟩ := e1
           rw [e2, e3.2 fun st hst e d => nd (hcl.needs _ _ _ (hh st hst e) d)]
         · exact absurd h (e1 g us)
       have hcur : ∀ v, CurV C D als sts (L.set i (some v)) := fun v => ⟨hD.len, fun j hj => by
           rcases hD.old j hj with ⟨g, us', vs', e1, e2, e3⟩ | e'
           · exact .inl ⟨g, us', vs', e1, e2, storedV_same hn (fun st hst _ => hs' st hst) e3⟩
           · exact .inr e', fun al hal => by
           rcases hD.new al hal with ⟨e1, e2⟩ | ⟨h', vs', e1, e2, e3⟩
           · exact .inl ⟨fun z => ((done_set hn _).1 z).elim (ha' al hal) e1, e2⟩
           · exact .inr ⟨h', vs', by rw [List.getElem?_set_ne (Ne.symm (ha' al hal))]; exact e1, e2, storedV_same hn (fun st hst _ => hs' st hst) e3⟩⟩
       rcases step L W i o ho hs' ha' hd' hB hK.old with ⟨w', r, k⟩ | ⟨f, args, r, k⟩
       · unfold Oper.wp; rw [r]
         exact ⟨_, rfl, key _ (fun _ => rfl), hcl.set ho hn hd, D, hcur _, hK.on k⟩
       · unfold Oper.wp; rw [r]
         refine Calls.mono k fun e w' hh => ?_
         obtain ⟨rfl, hS⟩ := hh
         exact ⟨_, rfl, key _ (fun _ => rfl), hcl.set ho hn hd, D, hcur _, hK.on hS⟩
 · rintro L W hL hall ⟨hdet, -, D, hD, hK⟩
   refine fin L D W hL (fun i hi hia => ?_) hD.len (fun j hj q => ?_) (fun st hst g us h => ?_) (fun al hal => ?_) hK
   · obtain ⟨v, hv⟩ := hall i hi
     rw [hv, hdet i v hia hv]
   · rcases hD.old j q with ⟨g', us', vs', e1, e2, e3⟩ | ⟨-, e⟩
     · rw [e1, e2, e3.2 fun st hst e => absurd e (hj st hst)]
     · exact e
   · have q : ∀ al ∈ als, al.j ≠ st.j := fun al hal e => by
        have := ha al hal
        rw [e, h] at this
        simp at this
     rcases hD.old st.j q with ⟨g', us', vs', e1, e2, e3⟩ | ⟨e1, -⟩
     · rw [h] at e1
       simp at e1
       obtain ⟨rfl, rfl⟩ := e1
       rw [e2, e3.1 st hst rfl (hall _ (hss st hst))]
     · exact absurd h (e1 g us)
   · rcases hD.new al hal with ⟨z, -⟩ | ⟨h, vs, e1, e2, e3⟩
     · exact absurd (hall _ (hai al hal)) z
     · refine ⟨h, e1, fun st hst e => ?_, fun hn => ?_⟩
       · rw [e2, e3.1 st hst e (hall _ (hss st hst))]
       · rw [e2, e3.2 fun st hst e => absurd e (hn st hst)]
theorem wp_region_kv {id : Nat} {a0 : Act} {w w0 : World} {C : List (Option (Nat × List Value))} (E : (Nat → Nat) → List (Option (Nat × List Value))) (Lf : (Nat → Nat) → List (Option Value)) (als : List Av) (sts : List Sv) (dv : List Value) (ds : List (Option Tmp))
 (hm : Tryz.prog.follows .mixedOrders = true) (hds : ops.toList.map (·.dst) = ds) (hap : apartL ds = true) (hb : backward ops = true) (hg : plainL ops = true) (hC : Kv w0 C w)
 (ha : ∀ al ∈ als, C[al.j]? = some none) (haj : ∀ al ∈ als, ∀ al' ∈ als, (al.j = al'.j ∨ al.i = al'.i) → al = al') (hai : ∀ al ∈ als, al.i < ops.size)
 (hsi : ∀ st ∈ sts, ∀ st' ∈ sts, (st.j = st'.j ∨ st.i = st'.i) → st = st') (hss : ∀ st ∈ sts, st.i < ops.size) (hsa : ∀ st ∈ sts, ∀ al ∈ als, st.i ≠ al.i)
 (hsw : ∀ st ∈ sts, ∀ al ∈ als, st.j = al.j → waitsAt ops st.i al.i = true)
 (htg : ∀ st ∈ sts, (∃ g us, C[st.j]? = some (some (g, us)) ∧ st.k + st.vs.length ≤ us.length) ∨ ∃ al ∈ als, al.j = st.j ∧ st.k + st.vs.length ≤ al.us.length)
 (hE2 : ∀ hf j, (∀ st ∈ sts, st.j ≠ j) → (∀ al ∈ als, al.j ≠ j) → (E hf)[j]? = C[j]?)
 (hE3 : ∀ hf, ∀ st ∈ sts, ∀ g us, C[st.j]? = some (some (g, us)) → (E hf)[st.j]? = some (some (g, setV us st.k st.vs)))
 (hE4 : ∀ hf, ∀ al ∈ als, (∀ st ∈ sts, st.j = al.j → (E hf)[al.j]? = some (some (hf al.i, setV al.us st.k st.vs))) ∧ ((∀ st ∈ sts, st.j ≠ al.j) → (E hf)[al.j]? = some (some (hf al.i, al.us))))
 (hL1 : ∀ hf, (Lf hf).length = ops.size)
 (hL2 : ∀ hf i, i < ops.size → (∀ al ∈ als, al.i ≠ i) → (Lf hf)[i]? = some (some (dv.getD i undef)))
 (hL3 : ∀ hf, ∀ al ∈ als, (Lf hf)[al.i]? = some (some (ptrV (hf al.i))))
 (alloc : ∀ al ∈ als, ∀ (o : Oper) (ρ : Operand → Value) (W : World), ops[al.i]? = some o → (execOp ρ o).run Tryz.prog W = .ok (.value (ptrV W.heap.size)) (W.alloc (objV al.t al.us)))
 (step : ∀ (L : List (Option Value)) (W : World) (i : Nat) (o : Oper), ops[i]? = some o → (∀ st ∈ sts, st.i ≠ i) → (∀ al ∈ als, al.i ≠ i) → (∀ k, waits o k = true → (∀ al ∈ als, al.i ≠ k) → L[k]? = some (some (dv.getD k undef))) →
  (∀ (j g : Nat) (us : List Value), C[j]? = some (some (g, us)) → (∀ st ∈ sts, st.j = j → needs ops ops.size st.i i = true) → BV W g us) → Below w0.heap.size w0 W → Came o (puts ds L a0) W (dv.getD i undef))
 (store : ∀ st ∈ sts, ∀ (L : List (Option Value)) (W : World) (o : Oper) (h : Nat) (us : List Value), ops[st.i]? = some o → (∀ k, waits o k = true → (∀ al ∈ als, al.i ≠ k) → L[k]? = some (some (dv.getD k undef))) →
  (∀ al ∈ als, al.j = st.j → L[al.i]? = some (some (ptrV h)) ∧ us = al.us) → (∀ g vs, C[st.j]? = some (some (g, vs)) → h = g ∧ us = vs) → BV W h us →
  (execOp (puts ds L a0).eval o).run Tryz.prog W = .ok .skip (putV W h st.k st.vs) ∧ dv.getD st.i undef = undef)
 (fin : ∀ (hf : Nat → Nat) (W : World), Kv w0 (E hf) W → Q .normal (puts ds (Lf hf) a0) W) : (Code.region id ops true).wp Tryz.prog Q a0 w := by
 refine wp_region_v als sts dv ds hm hds hap hb hg hC ha haj hai hsi hss hsa hsw htg alloc step store fun L D W hL hall hlen hold hst hal hK => ?_
 -- the addresses
 let hf : Nat → Nat := fun i => match L[i]? with
  | some (some (.pointer (some p))) => p.block
  | _ => 0
 have hfe : ∀ al ∈ als, ∀ h, L[al.i]? = some (some (ptrV h)) → hf al.i = h := fun al _ h e => by
  show (match L[al.i]? with | some (some (.pointer (some p))) => p.block | _ => 0) = h
  rw [e]; rfl
 have eL : L = Lf hf := by
  refine List.ext_getElem? fun i => ?_
  by_cases hi : i < ops.size
  · by_cases q : ∃ al ∈ als, al.i = i
    · obtain ⟨al, m, rfl⟩ := q
      obtain ⟨h, e, -⟩ := hal al m
      rw [hL3 hf al m, hfe al m h e, e]
    · have q' : ∀ al ∈ als, al.i ≠ i := fun al m e => q ⟨al, m, e⟩
      rw [hall i hi q', hL2 hf i hi q']
  · rw [List.getElem?_eq_none (by omega), List.getElem?_eq_none (by rw [hL1 hf]; omega)]
 have eD : D = E hf := by
  refine List.ext_getElem? fun j => ?_
  by_cases q : ∃ al ∈ als, al.j = j
  · obtain ⟨al, m, rfl⟩ := q
    obtain ⟨h, e, d1, d2⟩ := hal al m
    have e4 := hE4 hf al m
    rw [hfe al m h e] at e4
    by_cases r : ∃ st ∈ sts, st.j = al.j
    · obtain ⟨st, ms, es⟩ := r
      rw [d1 st ms es, e4.1 st ms es]
    · have r' : ∀ st ∈ sts, st.j ≠ al.j := fun st ms es => r ⟨st, ms, es⟩
      rw [d2 r', e4.2 r']
  · have q' : ∀ al ∈ als, al.j ≠ j := fun al m e => q ⟨al, m, e⟩
    by_cases r : ∃ st ∈ sts, st.j = j
    · obtain ⟨st, ms, rfl⟩ := r
      rcases htg st ms with ⟨g, us, c, -⟩ | ⟨al, m, e, -⟩
      · rw [hst st ms g us c, hE3 hf st ms g us c]
      · exact absurd e (q' al m)
    · have r' : ∀ st ∈ sts, st.j ≠ j := fun st ms es => r ⟨st, ms, es⟩
      rw [hold j r' q', hE2 hf j r' q']
 rw [eL]
 rw [eD] at hK
 exact fin hf W hK
end
end Go.Proofs.YtacinenddnfcbaaGreat
