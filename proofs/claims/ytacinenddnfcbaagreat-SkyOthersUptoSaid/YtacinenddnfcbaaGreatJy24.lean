/- Proved here: what the texts Kak, Kal, Kam prove, one behind the other. -/
import Derived.Test.YtacinenddnfcbaaGreatJy23
import Derived.Test.YtacinenddnfcbaaGreatJy22
import Derived.Test.YtacinenddnfcbaaGreatJy20

set_option maxRecDepth 100000
namespace Go.Proofs.YtacinenddnfcbaaGreat
open Go.ChangeShapes Go.WideShapes Go.ChangeAt Go.RowKit Ieee.Own

def Foot (P : Nat → Prop) (w : World) (Φ : World → Prop) : Prop := ∀ W : World, w.heap.size ≤ W.heap.size → (∀ b, P b → b < w.heap.size → W.heap[b]? = w.heap[b]?) → Φ W
section
variable {P P' : Nat → Prop} {w w' : World} {Φ Ψ : World → Prop}
theorem Foot.now (h : Foot P w Φ) : Φ w := h w (Nat.le_refl _) fun _ _ _ => rfl
theorem Foot.grow {row : Option Nat} (h : Foot P w Φ) (hg : w.grownBy w' row) (hp : ∀ b, P b → some b ≠ row) : Foot P w' Φ := fun W hs hb =>
 h W (Nat.le_trans hg.size hs) fun b pb hl => (hb b pb (Nat.lt_of_lt_of_le hl hg.size)).trans (hg.block b hl (hp b pb))
theorem Foot.on (h : Foot P w Φ) (hb : Below w.heap.size w w') : Foot P w' Φ := fun W hs hk =>
 h W (Nat.le_trans hb.size hs) fun b pb hl => (hk b pb (Nat.lt_of_lt_of_le hl hb.size)).trans (hb.block b hl)
theorem Foot.imp (h : Foot P w Φ) (hp : ∀ b, b < w.heap.size → P b → P' b) : Foot P' w Φ := fun W hs hk => h W hs fun b pb hl => hk b (hp b hl pb) hl
theorem Foot.and (h : Foot P w Φ) (g : Foot P w Ψ) : Foot P w fun W => Φ W ∧ Ψ W := fun W hs hk => ⟨h W hs hk, g W hs hk⟩
end
theorem rat_foot {P : Nat → Prop} {w : World} {ao : Option Addr} {m : Nat} {R : List (List Value)} (h : RAt w ao m R) (hp : ∀ b o, ao = some ⟨b, o, none⟩ → 0 < R.length → P b) : Foot P w fun W => RAt W ao m R := fun W hs hk j r hj => by
 obtain ⟨b, o, e, hl, h1⟩ := h j r hj
 have eb := hk b (hp b o e (by have := (List.getElem?_eq_some_iff.1 hj).1; omega)) hl
 exact ⟨b, o, e, Nat.lt_of_lt_of_le hl hs, fun k u hu => (World.cell?_of_block (a := ⟨b, _, none⟩) eb).trans (h1 k u hu)⟩
theorem fs_foot {P : Nat → Prop} {w : World} {v : Value} {L : List Nat} (h : FsAt w v L) (hp : 0 < L.length → ∀ b, v.ownBlock = some b → P b) : Foot P w fun W => FsAt W v L := fun W hs hk => by
 obtain ⟨ao, cap, e, h1, h2, h3, h4⟩ := h
 subst e
 exact ⟨ao, cap, rfl, h1, h2, h3, rat_foot h4 (fun b o e hl => hp (by simpa using hl) b (by rw [e]; rfl)) W hs hk⟩
theorem BV.same {w w' : World} {g : Nat} {us : List Value} (h : BV w g us) (hs : w.heap.size ≤ w'.heap.size) (e : w'.heap[g]? = w.heap[g]?) : BV w' g us :=
 ⟨Nat.lt_of_lt_of_le h.lt hs, fun i u hu => (World.cell?_of_block (a := ⟨g, i, none⟩) e).trans (h.at_ i u hu), fun i u hu => (World.frozen?_of_block (a := ⟨g, i, none⟩) e).trans (h.fr i u hu)⟩
structure Rwt (w0 : World) (T : List (List (List Nat))) (i : Nat) (M : List (List Value)) (v : Value) (w : World) : Prop where
 own : OwnR 68 3 w0.heap.size w0 M v w
 len : M.length = i
 row : ∀ j, j < i → ∃ v0 v1 v2, M[j]? = some [v0, v1, v2] ∧ CpAt (w0.heap.size) w v0 (cfT T j 0) ∧ CpAt (w0.heap.size) w v1 (cfT T j 1) ∧ CpAt (w0.heap.size) w v2 (cfT T j 2)
 ne : ∀ j, j < i → ∀ k, ∀ u, (M.getD j [])[k]? = some u → 0 < (cfT T j k).length → v.ownBlock = none ∨ u.ownBlock ≠ v.ownBlock
 hi : ∀ b, v.ownBlock = some b → w0.heap.size ≤ b
theorem Rwt.start (w w1 : World) (T : List (List (List Nat))) (hb : Below w.heap.size w w1) (hs : w.heap.size ≤ w1.heap.size) : Rwt w T 0 [] (.slice none 0 0) w1 :=
 ⟨⟨hb, World.ownsRow_nil _ _ _ _, hs, ⟨by simp, by simp⟩⟩, rfl, fun j hj => by omega, fun j hj => by omega, fun b e => by simp [Value.ownBlock] at e⟩
theorem Rwt.on {w0 : World} {T : List (List (List Nat))} {i : Nat} {M : List (List Value)} {v : Value} {w w' : World} (h : Rwt w0 T i M v w) (hb : Below w.heap.size w w') : Rwt w0 T i M v w' :=
 ⟨h.own.grow hb, h.len, fun j hj => by
  obtain ⟨v0, v1, v2, e, a, b, c⟩ := h.row j hj
  exact ⟨v0, v1, v2, e, a.on hb, b.on hb, c.on hb⟩, h.ne, h.hi⟩
theorem Rwt.tb {w0 : World} {T : List (List (List Nat))} {M : List (List Value)} {v : Value} {w : World} (h : Rwt w0 T T.length M v w) :
 ∃ ao cap, v = .slice ao T.length cap ∧ T.length ≤ cap ∧ cap ≤ maxLen ∧ (ao = none → cap = 0) ∧ TbAt w ao T := by
 obtain ⟨ao, cap, e, h1, h2, h3, h4, -⟩ := ownsR_at h.own.ok h.own.own
 rw [h.len] at e h1
 refine ⟨ao, cap, e, h1, h2, h4, fun i hi => ?_⟩
 obtain ⟨v0, v1, v2, em, a, b, c⟩ := h.row i hi
 obtain ⟨g, o, eg, hg, hc⟩ := h3 i _ em
 exact ⟨g, o, v0, v1, v2, eg, hg, hc 0 _ rfl, hc 1 _ rfl, hc 2 _ rfl, a.at_, b.at_, c.at_⟩
theorem Rwt.push {w0 : World} {T : List (List (List Nat))} {i : Nat} {M : List (List Value)} {v v' : Value} {w u w' : World} {v0 v1 v2 : Value} (h : Rwt w0 T i M v w) (hs : w0.heap.size ≤ w.heap.size)
 (hu : Below w.heap.size w u) (c0 : CpAt w.heap.size u v0 (cfT T i 0)) (c1 : CpAt w.heap.size u v1 (cfT T i 1)) (c2 : CpAt w.heap.size u v2 (cfT T i 2))
 (hown : OwnR 68 3 w0.heap.size w0 (M ++ [[v0, v1, v2]]) v' w') (hg : (u.alloc (.cells [v0, v1, v2].toArray 68)).grownBy w' v.ownBlock) (hb : v'.ownBlock = v.ownBlock ∨ v'.ownBlock = some (u.heap.size + 1)) :
 Rwt w0 T (i + 1) (M ++ [[v0, v1, v2]]) v' w' := by
 have ba := (Below.refl u.heap.size u).alloc (Nat.le_refl _) (.cells [v0, v1, v2].toArray 68)
 have hU := (h.on hu).on ba
 have lt := h.own.lt
 have key : ∀ {x : Value} {L : List Nat} {B : Nat}, CpAt B u x L → (0 < L.length → v.ownBlock = none ∨ x.ownBlock ≠ v.ownBlock) → CpAt B w' x L := fun {x L B} c n =>
  ⟨(c.at_.on ba).grown hg (fun hl e => by
    rcases n hl with n | n
    · -- nothing of the call's own
      have lx := c.at_.lt hl
      rw [n] at e
      obtain ⟨ao, cap, rfl, k1, k2, k3, k4⟩ := c.at_
      obtain ⟨b, o, eb, -⟩ := fs_cell k4 hl
      subst eb
      simp [Value.ownBlock] at e
    · exact n e), c.out⟩
 have new : ∀ {x : Value} {L : List Nat}, CpAt w.heap.size u x L → (0 < L.length → v.ownBlock = none ∨ x.ownBlock ≠ v.ownBlock) := fun {x L} c hl => by
  by_cases z : v.ownBlock = none
  · exact .inl z
  · right
    intro e
    obtain ⟨b, hb'⟩ := Option.ne_none_iff_exists'.1 z
    have a := (lt b hb').2
    have := c.out hl b (by rw [e]; exact hb')
    omega
 have nw : ∀ {x : Value} {L : List Nat}, FsAt u x L → 0 < L.length → x.ownBlock ≠ some (u.heap.size + 1) := fun {x L} c hl e => by
  have := c.lt hl _ e
  omega
 have nx : ∀ {x : Value} {L : List Nat}, FsAt u x L → (0 < L.length → v.ownBlock = none ∨ x.ownBlock ≠ v.ownBlock) → 0 < L.length → v'.ownBlock = none ∨ x.ownBlock ≠ v'.ownBlock := fun {x L} c n hl => by
  rcases hb with e | e
  · rw [e]; exact n hl
  · right; rw [e]; exact nw c hl
 have getL : ∀ {j : Nat}, j < i → (M ++ [[v0, v1, v2]])[j]? = M[j]? := fun hj => List.getElem?_append_left (by rw [h.len]; exact hj)
 have getN : (M ++ [[v0, v1, v2]])[i]? = some [v0, v1, v2] := by
  rw [List.getElem?_append_right (by rw [h.len]; exact Nat.le_refl _), h.len, Nat.sub_self]; rfl
 refine ⟨hown, by simp [h.len], fun j hj => ?_, fun j hj k x hx hl => ?_, fun b e => ?_⟩
 · by_cases q : j < i
   · obtain ⟨x0, x1, x2, e, a, b, c⟩ := (h.on hu).row j q
     have em : M.getD j [] = [x0, x1, x2] := by simp [List.getD, e]
     have n := h.ne j q
     rw [em] at n
     exact ⟨x0, x1, x2, by rw [getL q]; exact e, key a (n 0 x0 rfl), key b (n 1 x1 rfl), key c (n 2 x2 rfl)⟩
   · have e : j = i := by omega
     subst e
     exact ⟨v0, v1, v2, getN, key (c0.mono hs) (new c0), key (c1.mono hs) (new c1), key (c2.mono hs) (new c2)⟩
 · by_cases q : j < i
   · have em : (M ++ [[v0, v1, v2]]).getD j [] = M.getD j [] := by simp only [List.getD, getL q]
     rw [em] at hx
     obtain ⟨x0, x1, x2, e, a, b, c⟩ := (h.on hu).row j q
     have e3 : M.getD j [] = [x0, x1, x2] := by simp [List.getD, e]
     have n := h.ne j q k x hx
     rw [e3] at hx
     have hk := (List.getElem?_eq_some_iff.1 hx).1
     have hk3 : k = 0 ∨ k = 1 ∨ k = 2 := by simp at hk; omega
     rcases hk3 with rfl | rfl | rfl
     · simp at hx; subst hx; exact nx a.at_ n hl
     · simp at hx; subst hx; exact nx b.at_ n hl
     · simp at hx; subst hx; exact nx c.at_ n hl
   · have e : j = i := by omega
     subst e
     have em : (M ++ [[v0, v1, v2]]).getD j [] = [v0, v1, v2] := by simp only [List.getD, getN]; rfl
     rw [em] at hx
     have hk := (List.getElem?_eq_some_iff.1 hx).1
     have hk3 : k = 0 ∨ k = 1 ∨ k = 2 := by simp at hk; omega
     rcases hk3 with rfl | rfl | rfl
     · simp at hx; subst hx; exact nx c0.at_ (new c0) hl
     · simp at hx; subst hx; exact nx c1.at_ (new c1) hl
     · simp at hx; subst hx; exact nx c2.at_ (new c2) hl
 · rcases hb with q | q
   · rw [q] at e; exact h.hi b e
   · rw [q] at e
     cases e
     have := hu.size
     omega
theorem Rwt.foot {w0 : World} {T : List (List (List Nat))} {M : List (List Value)} {v : Value} {w : World} (h : Rwt w0 T T.length M v w) :
 ∃ ao cap, v = .slice ao T.length cap ∧ T.length ≤ cap ∧ cap ≤ maxLen ∧ (ao = none → cap = 0) ∧ Foot (fun b => w0.heap.size ≤ b) w fun W => TbAt W ao T := by
 obtain ⟨ao, cap, e, h1, h2, h3, -, -⟩ := ownsR_at h.own.ok h.own.own
 rw [h.len] at e h1
 refine ⟨ao, cap, e, h1, h2, (by rintro rfl; obtain ⟨ao', cap', e', -, -, q, -⟩ := h.tb; rw [e] at e'; simp only [Value.slice.injEq, true_and] at e'; obtain ⟨rfl, rfl⟩ := e'; exact q rfl), fun W hs hk i hi => ?_⟩
 obtain ⟨v0, v1, v2, em, a, b, c⟩ := h.row i hi
 obtain ⟨g, o, eg, hg, hc⟩ := h3 i _ em
 have hge : w0.heap.size ≤ g := h.hi g (by rw [e, eg]; rfl)
 have eb := hk g hge hg
 have F : ∀ {u : Value} {L : List Nat}, CpAt w0.heap.size w u L → FsAt W u L := fun {u L} x => fs_foot x.at_ (fun hl b e => x.out hl b e) W hs hk
 exact ⟨g, o, v0, v1, v2, eg, Nat.lt_of_lt_of_le hg hs, (World.cell?_of_block (a := ⟨g, _, none⟩) eb).trans (hc 0 _ rfl), (World.cell?_of_block (a := ⟨g, _, none⟩) eb).trans (hc 1 _ rfl), (World.cell?_of_block (a := ⟨g, _, none⟩) eb).trans (hc 2 _ rfl), F a, F b, F c⟩
theorem grown_puts (w : World) (g : Nat) : ∀ (vs : List Value) (k : Nat), w.grownBy (putV w g k vs) (some g)
 | [], _ => ⟨rfl, rfl, rfl, Nat.le_refl _, fun _ _ _ => rfl⟩
 | v :: vs, k => by
   have h := grown_set w g k v
   have r := grown_puts (w.setCell ⟨g, k, none⟩ v) g vs (k + 1)
   unfold putV
   exact ⟨r.os.trans h.os, r.tape.trans h.tape, r.output.trans h.output, Nat.le_trans h.size r.size, fun j hj ne => (r.block j (Nat.lt_of_lt_of_le hj h.size) ne).trans (h.block j hj ne)⟩
structure SkM (B n lt : Nat) (xs : List Value) (l2 l5 l6 l7 l8 : Option Value) (w : World) : Prop where
 bs : B ≤ w.heap.size
 a : ∀ v, l2 = some v → l5 = none → w.ownsRow B 91 7 v 0 []
 al : ∀ v, l2 = some v → ∀ k, v.ownBlock = some k → k < w.heap.size
 b : ∀ v, l5 = some v → w.ownsRow B 91 7 v n xs
 c : ∀ v, l6 = some v → ∃ x, l5 = some x ∧ v = .agg #[.float .f64 lt, x, .slice none 0 0]
 d : ∀ v, l7 = some v → ∃ g us, v = .pointer (some ⟨g, 0, none⟩) ∧ B ≤ g ∧ BV w g us ∧ (l8 = none → us = [.float .f64 0, .slice none 0 0, .slice none 0 0]) ∧ (∀ y, l8 = some y → ∃ x, l5 = some x ∧ us = [.float .f64 lt, x, .slice none 0 0]) ∧ (∀ x, l5 = some x → x.ownBlock ≠ some g) ∧ (∀ x, l2 = some x → x.ownBlock ≠ some g)
 e : ∀ y, l8 = some y → (∃ v, l7 = some v) ∧ ∃ x, l5 = some x
section
variable {B n lt : Nat} {xs : List Value} {l2 l5 l6 l7 l8 : Option Value} {w : World}
theorem SkM.start (w : World) (n lt : Nat) (xs : List Value) : SkM w.heap.size n lt xs none none none none none w :=
 ⟨Nat.le_refl _, (fun _ h => nomatch h), (fun _ h => nomatch h), (fun _ h => nomatch h), (fun _ h => nomatch h), (fun _ h => nomatch h), fun _ h => nomatch h⟩
theorem SkM.draws (h : SkM B n lt xs l2 l5 l6 l7 l8 w) : SkM B n lt xs l2 l5 l6 l7 l8 w.drew :=
 ⟨h.bs, h.a, h.al, h.b, h.c, fun v e => by
  obtain ⟨g, us, e1, e2, e3, r⟩ := h.d v e
  exact ⟨g, us, e1, e2, ⟨e3.1, e3.2, e3.3⟩, r⟩, h.e⟩
theorem SkM.build (h : SkM B n lt xs none l5 l6 l7 l8 w) : SkM B n lt xs (some (.slice (some ⟨w.heap.size, 0, none⟩) 0 0)) l5 l6 l7 l8 (w.alloc (.cells #[] 91)) := by
 have hb : Below w.heap.size w (w.alloc (.cells #[] 91)) := (Below.refl _ _).alloc (Nat.le_refl _) _
 refine ⟨by have := h.bs; simp; omega, fun v e _ => ?_, fun v e k hk => ?_, fun v e => (h.b v e).alloc _, h.c, fun v e => ?_, h.e⟩
 · obtain rfl := Option.some.inj e
   exact World.ownsRow_made w #[] 0 h.bs (by decide) (by simp)
 · obtain rfl := Option.some.inj e
   simp only [Value.ownBlock, Option.some.injEq] at hk
   subst hk
   simp
 · obtain ⟨g, us, e1, e2, e3, e4, e5, e6, -⟩ := h.d v e
   refine ⟨g, us, e1, e2, e3.on hb, e4, e5, e6, fun x hx => ?_⟩
   obtain rfl := Option.some.inj hx
   intro q
   simp only [Value.ownBlock, Option.some.injEq] at q
   have := e3.lt
   omega
theorem SkM.append {v2 v' : Value} {w' : World} (h : SkM B n lt xs (some v2) none l6 l7 l8 w) (ho : w'.ownsRow B 91 7 v' n xs) (hg : w.grownBy w' v2.ownBlock) (h4 : v'.ownBlock = v2.ownBlock ∨ v'.ownBlock = some w.heap.size) : SkM B n lt xs (some v2) (some v') l6 l7 l8 w' := by
 have n8 : l8 = none := by
  cases hq : l8 with
  | none => rfl
  | some y => obtain ⟨-, x, e⟩ := h.e y hq; simp at e
 have n6 : l6 = none := by
  cases hq : l6 with
  | none => rfl
  | some y => obtain ⟨x, e, -⟩ := h.c y hq; simp at e
 subst n8 n6
 refine ⟨Nat.le_trans h.bs hg.size, (fun v _ e => nomatch e), fun v e k hk => Nat.lt_of_lt_of_le (h.al v e k hk) hg.size, fun v e => by obtain rfl := Option.some.inj e; exact ho, (fun _ e => nomatch e), fun v e => ?_, fun y e => nomatch e⟩
 obtain ⟨g, us, e1, e2, e3, e4, e5, e6, e7⟩ := h.d v e
 have ne := e7 v2 rfl
 refine ⟨g, us, e1, e2, e3.same hg.size (hg.block g e3.lt (fun q => ne q.symm)), e4, (fun y q => nomatch q), fun x hx => ?_, e7⟩
 obtain rfl := Option.some.inj hx
 rcases h4 with q | q
 · rw [q]; exact ne
 · rw [q]
   intro z
   have := e3.lt
   simp only [Option.some.injEq] at z
   omega
theorem SkM.made {x : Value} (h : SkM B n lt xs l2 (some x) none l7 l8 w) : SkM B n lt xs l2 (some x) (some (.agg #[.float .f64 lt, x, .slice none 0 0])) l7 l8 w :=
 ⟨h.bs, h.a, h.al, h.b, fun _ e => ⟨x, rfl, (Option.some.inj e).symm⟩, h.d, h.e⟩
theorem SkM.alloc (h : SkM B n lt xs l2 l5 l6 none l8 w) : SkM B n lt xs l2 l5 l6 (some (.pointer (some ⟨w.heap.size, 0, none⟩))) l8 (w.alloc (objV 26 [.float .f64 0, .slice none 0 0, .slice none 0 0])) := by
 have hb : Below w.heap.size w (w.alloc (objV 26 [.float .f64 0, .slice none 0 0, .slice none 0 0])) := (Below.refl _ _).alloc (Nat.le_refl _) _
 have n8 : l8 = none := by
  cases hq : l8 with
  | none => rfl
  | some y => obtain ⟨⟨v, e⟩, -⟩ := h.e y hq; simp at e
 subst n8
 refine ⟨by have := h.bs; simp; omega, fun v e1 e2 => (h.a v e1 e2).alloc _, fun v e k hk => by have := h.al v e k hk; simp; omega, fun v e => (h.b v e).alloc _, h.c, fun v e => ?_, fun y e => nomatch e⟩
 obtain rfl := Option.some.inj e
 refine ⟨w.heap.size, [.float .f64 0, .slice none 0 0, .slice none 0 0], rfl, h.bs, BV.box w _ _, fun _ => rfl, (fun y q => nomatch q), fun x hx q => ?_, fun x hx q => ?_⟩
 · have := ((h.b x hx).lt _ q).2; omega
 · have := h.al x hx _ q; omega
theorem SkM.store {g : Nat} {x y : Value} (h : SkM B n lt xs l2 (some x) l6 (some (.pointer (some ⟨g, 0, none⟩))) none w) : SkM B n lt xs l2 (some x) l6 (some (.pointer (some ⟨g, 0, none⟩))) (some y) (putV w g 0 [.float .f64 lt, x, .slice none 0 0]) := by
 obtain ⟨g', us, e1, e2, e3, e4, -, e6, e7⟩ := h.d _ rfl
 obtain rfl : g = g' := by simpa using e1
 obtain rfl := e4 rfl
 have gr := grown_puts w g [.float .f64 lt, x, .slice none 0 0] 0
 have B1 := e3.put [.float .f64 lt, x, .slice none 0 0] 0 (by simp)
 simp only [setV, List.set_cons_zero, List.set_cons_succ] at B1
 refine ⟨Nat.le_trans h.bs gr.size, (fun v _ e => nomatch e), fun v e k hk => Nat.lt_of_lt_of_le (h.al v e k hk) gr.size, fun v e => ?_, h.c, fun v e => ?_, fun _ _ => ⟨⟨_, rfl⟩, _, rfl⟩⟩
 · obtain rfl := Option.some.inj e
   exact (h.b _ rfl).kept gr (.inr (e6 _ rfl))
 · obtain rfl := Option.some.inj e
   exact ⟨g, _, rfl, e2, B1, (fun q => nomatch q), fun _ _ => ⟨x, rfl, rfl⟩, e6, e7⟩
end
end Go.Proofs.YtacinenddnfcbaaGreat

namespace Go.Proofs.YtacinenddnfcbaaGreat
open Go.ChangeShapes Go.WideShapes Go.ChangeAt Go.RowKit Ieee.Own

theorem gd_ne {α : Type} {L : List (Option α)} {i k : Nat} {x : Option α} (h : i ≠ k) : (L.set i x).getD k none = L.getD k none := by
 simp only [List.getD, List.getElem?_set_ne h]
theorem gd_eq {α : Type} {L : List (Option α)} {i : Nat} {x : Option α} (h : i < L.length) : (L.set i x).getD i none = x := by
 simp only [List.getD, List.getElem?_set_self h, Option.getD_some]
theorem gd_of {α : Type} {L : List (Option α)} {i : Nat} {x : Option α} (h : L[i]? = some x) : L.getD i none = x := by
 simp only [List.getD, h, Option.getD_some]
structure RlS (wr : World) (p0 c1 p3 c4 : Value) (n lt : Nat) (xs : List Value) (L : List (Option Value)) (W : World) : Prop where
 len : L.length = 9
 old : Below wr.heap.size wr W
 d0 : ∀ v, L.getD 0 none = some v → v = p0
 d1 : ∀ v, L.getD 1 none = some v → v = c1
 d3 : ∀ v, L.getD 3 none = some v → v = p3
 d4 : ∀ v, L.getD 4 none = some v → v = c4
 m : SkM wr.heap.size n lt xs (L.getD 2 none) (L.getD 5 none) (L.getD 6 none) (L.getD 7 none) (L.getD 8 none) W
section
variable {wr W W' : World} {p0 c1 p3 c4 : Value} {n lt : Nat} {xs : List Value} {L : List (Option Value)}
theorem RlS.start (wr : World) (p0 c1 p3 c4 : Value) (n lt : Nat) (xs : List Value) : RlS wr p0 c1 p3 c4 n lt xs (nones 9) wr.drew := by
 have e : ∀ k, (nones 9 : List (Option Value)).getD k none = none := fun k => by
  unfold nones
  simp only [List.getD, List.getElem?_replicate]
  split <;> rfl
 refine ⟨by simp [nones], (Below.refl _ _).drew, fun v h => ?_, fun v h => ?_, fun v h => ?_, fun v h => ?_, ?_⟩
 · rw [e] at h; cases h
 · rw [e] at h; cases h
 · rw [e] at h; cases h
 · rw [e] at h; cases h
 · rw [e, e, e, e, e]; exact (SkM.start wr n lt xs).draws
theorem RlS.set0 (h : RlS wr p0 c1 p3 c4 n lt xs L W) : RlS wr p0 c1 p3 c4 n lt xs (L.set 0 (some p0)) W := by
 have hl : 0 < L.length := by rw [h.len]; decide
 refine ⟨by rw [List.length_set]; exact h.len, h.old, ?_, ?_, ?_, ?_, ?_⟩
 · rw [gd_eq hl]; exact fun v e => (Option.some.inj e).symm
 · rw [gd_ne (by decide)]; exact h.d1
 · rw [gd_ne (by decide)]; exact h.d3
 · rw [gd_ne (by decide)]; exact h.d4
 · rw [gd_ne (by decide), gd_ne (by decide), gd_ne (by decide), gd_ne (by decide), gd_ne (by decide)]; exact h.m
theorem RlS.set1 (h : RlS wr p0 c1 p3 c4 n lt xs L W) : RlS wr p0 c1 p3 c4 n lt xs (L.set 1 (some c1)) W := by
 have hl : 1 < L.length := by rw [h.len]; decide
 refine ⟨by rw [List.length_set]; exact h.len, h.old, ?_, ?_, ?_, ?_, ?_⟩
 · rw [gd_ne (by decide)]; exact h.d0
 · rw [gd_eq hl]; exact fun v e => (Option.some.inj e).symm
 · rw [gd_ne (by decide)]; exact h.d3
 · rw [gd_ne (by decide)]; exact h.d4
 · rw [gd_ne (by decide), gd_ne (by decide), gd_ne (by decide), gd_ne (by decide), gd_ne (by decide)]; exact h.m
theorem RlS.set3 (h : RlS wr p0 c1 p3 c4 n lt xs L W) : RlS wr p0 c1 p3 c4 n lt xs (L.set 3 (some p3)) W := by
 have hl : 3 < L.length := by rw [h.len]; decide
 refine ⟨by rw [List.length_set]; exact h.len, h.old, ?_, ?_, ?_, ?_, ?_⟩
 · rw [gd_ne (by decide)]; exact h.d0
 · rw [gd_ne (by decide)]; exact h.d1
 · rw [gd_eq hl]; exact fun v e => (Option.some.inj e).symm
 · rw [gd_ne (by decide)]; exact h.d4
 · rw [gd_ne (by decide), gd_ne (by decide), gd_ne (by decide), gd_ne (by decide), gd_ne (by decide)]; exact h.m
theorem RlS.set4 (h : RlS wr p0 c1 p3 c4 n lt xs L W) : RlS wr p0 c1 p3 c4 n lt xs (L.set 4 (some c4)) W := by
 have hl : 4 < L.length := by rw [h.len]; decide
 refine ⟨by rw [List.length_set]; exact h.len, h.old, ?_, ?_, ?_, ?_, ?_⟩
 · rw [gd_ne (by decide)]; exact h.d0
 · rw [gd_ne (by decide)]; exact h.d1
 · rw [gd_ne (by decide)]; exact h.d3
 · rw [gd_eq hl]; exact fun v e => (Option.some.inj e).symm
 · rw [gd_ne (by decide), gd_ne (by decide), gd_ne (by decide), gd_ne (by decide), gd_ne (by decide)]; exact h.m
theorem RlS.set2 {v : Value} (h : RlS wr p0 c1 p3 c4 n lt xs L W) (hb : Below wr.heap.size wr W') (m : SkM wr.heap.size n lt xs (some v) (L.getD 5 none) (L.getD 6 none) (L.getD 7 none) (L.getD 8 none) W') : RlS wr p0 c1 p3 c4 n lt xs (L.set 2 (some v)) W' := by
 have hl : 2 < L.length := by rw [h.len]; decide
 refine ⟨by rw [List.length_set]; exact h.len, hb, ?_, ?_, ?_, ?_, ?_⟩
 · rw [gd_ne (by decide)]; exact h.d0
 · rw [gd_ne (by decide)]; exact h.d1
 · rw [gd_ne (by decide)]; exact h.d3
 · rw [gd_ne (by decide)]; exact h.d4
 · rw [gd_eq hl, gd_ne (i := 2) (k := 5) (by decide), gd_ne (i := 2) (k := 6) (by decide), gd_ne (i := 2) (k := 7) (by decide), gd_ne (i := 2) (k := 8) (by decide)]; exact m
theorem RlS.set5 {v : Value} (h : RlS wr p0 c1 p3 c4 n lt xs L W) (hb : Below wr.heap.size wr W') (m : SkM wr.heap.size n lt xs (L.getD 2 none) (some v) (L.getD 6 none) (L.getD 7 none) (L.getD 8 none) W') : RlS wr p0 c1 p3 c4 n lt xs (L.set 5 (some v)) W' := by
 have hl : 5 < L.length := by rw [h.len]; decide
 refine ⟨by rw [List.length_set]; exact h.len, hb, ?_, ?_, ?_, ?_, ?_⟩
 · rw [gd_ne (by decide)]; exact h.d0
 · rw [gd_ne (by decide)]; exact h.d1
 · rw [gd_ne (by decide)]; exact h.d3
 · rw [gd_ne (by decide)]; exact h.d4
 · rw [gd_ne (i := 5) (k := 2) (by decide), gd_eq hl, gd_ne (i := 5) (k := 6) (by decide), gd_ne (i := 5) (k := 7) (by decide), gd_ne (i := 5) (k := 8) (by decide)]; exact m
theorem RlS.set6 {v : Value} (h : RlS wr p0 c1 p3 c4 n lt xs L W) (hb : Below wr.heap.size wr W') (m : SkM wr.heap.size n lt xs (L.getD 2 none) (L.getD 5 none) (some v) (L.getD 7 none) (L.getD 8 none) W') : RlS wr p0 c1 p3 c4 n lt xs (L.set 6 (some v)) W' := by
 have hl : 6 < L.length := by rw [h.len]; decide
 refine ⟨by rw [List.length_set]; exact h.len, hb, ?_, ?_, ?_, ?_, ?_⟩
 · rw [gd_ne (by decide)]; exact h.d0
 · rw [gd_ne (by decide)]; exact h.d1
 · rw [gd_ne (by decide)]; exact h.d3
 · rw [gd_ne (by decide)]; exact h.d4
 · rw [gd_ne (i := 6) (k := 2) (by decide), gd_ne (i := 6) (k := 5) (by decide), gd_eq hl, gd_ne (i := 6) (k := 7) (by decide), gd_ne (i := 6) (k := 8) (by decide)]; exact m
theorem RlS.set7 {v : Value} (h : RlS wr p0 c1 p3 c4 n lt xs L W) (hb : Below wr.heap.size wr W') (m : SkM wr.heap.size n lt xs (L.getD 2 none) (L.getD 5 none) (L.getD 6 none) (some v) (L.getD 8 none) W') : RlS wr p0 c1 p3 c4 n lt xs (L.set 7 (some v)) W' := by
 have hl : 7 < L.length := by rw [h.len]; decide
 refine ⟨by rw [List.length_set]; exact h.len, hb, ?_, ?_, ?_, ?_, ?_⟩
 · rw [gd_ne (by decide)]; exact h.d0
 · rw [gd_ne (by decide)]; exact h.d1
 · rw [gd_ne (by decide)]; exact h.d3
 · rw [gd_ne (by decide)]; exact h.d4
 · rw [gd_ne (i := 7) (k := 2) (by decide), gd_ne (i := 7) (k := 5) (by decide), gd_ne (i := 7) (k := 6) (by decide), gd_eq hl, gd_ne (i := 7) (k := 8) (by decide)]; exact m
theorem RlS.set8 {v : Value} (h : RlS wr p0 c1 p3 c4 n lt xs L W) (hb : Below wr.heap.size wr W') (m : SkM wr.heap.size n lt xs (L.getD 2 none) (L.getD 5 none) (L.getD 6 none) (L.getD 7 none) (some v) W') : RlS wr p0 c1 p3 c4 n lt xs (L.set 8 (some v)) W' := by
 have hl : 8 < L.length := by rw [h.len]; decide
 refine ⟨by rw [List.length_set]; exact h.len, hb, ?_, ?_, ?_, ?_, ?_⟩
 · rw [gd_ne (by decide)]; exact h.d0
 · rw [gd_ne (by decide)]; exact h.d1
 · rw [gd_ne (by decide)]; exact h.d3
 · rw [gd_ne (by decide)]; exact h.d4
 · rw [gd_ne (i := 8) (k := 2) (by decide), gd_ne (i := 8) (k := 5) (by decide), gd_ne (i := 8) (k := 6) (by decide), gd_ne (i := 8) (k := 7) (by decide), gd_eq hl]; exact m
end
theorem recFr : RecT 23 91 7 56 (.agg #[.int .i64 0, .int .i64 0, .float .f64 0, .float .f64 0, .float .f64 0, .float .f64 0, .float .f64 0]) := ⟨Tryz.underlying23, by kernel_rfl, rfl, by omega⟩
theorem recWv : RecT 46 115 5 40 (.agg #[.int .i64 0, .int .i64 0, .float .f64 0, .float .f64 0, .float .f64 0]) := ⟨Tryz.underlying46, by kernel_rfl, rfl, by omega⟩
theorem recBd : RecT 24 51 18 176 (.agg #[.int .i64 0, .int .i64 0, .float .f64 0, .float .f64 0, .float .f64 0, .float .f64 0, .float .f64 0, .float .f64 0, .float .f64 0, .float .f64 0, .float .f64 0, .float .f64 0, .float .f64 0, .slice none 0 0, .float .f64 0, .float .f64 0, .slice none 0 0, .int .i64 0]) := ⟨Tryz.underlying24, by kernel_rfl, rfl, by omega⟩
theorem wp_dupAt {w : World} {o : Oper} {a : Act} {K : Act → World → Prop} {Q : Exit → Act → World → Prop} {t e : TypeId} {m bytes : Nat} {z : Value} (T : RecT t e m bytes z) (s x : Operand)
 (ho : o.op = .call { callee := .builtin .append, args := #[s, x], argTypes := #[t, t] }) (base : Nat) (v : Value) (hs : a.eval s = v)
 (hown : w.ownsRow base e m v 0 []) (ao : Option Addr) (n cap : Nat) (R : List (List Value)) (hx : a.eval x = .slice ao n cap) (hn : n = R.length) (hnone : ao = none → cap = 0) (ha : RAt w ao m R) (hR : RowsOk m R)
 (hmax : R.length ≤ maxLen) (hby : R.length * bytes ≤ 140737488355328) (hbase : base ≤ w.heap.size)
 (h : ∀ v' w', w'.ownsRow base e m v' n R.flatten → w.grownBy w' v.ownBlock → (v'.ownBlock = v.ownBlock ∨ v'.ownBlock = some w.heap.size) → K (a.put o.dst v') w') :
 o.wp Tryz.prog a w K Q := by
 obtain ⟨i0, hi0, hz0, hz1, hz2⟩ := info_ofR T.info
 subst hn
 cases ao with
 | none =>
   have hL : R = [] := by
    refine List.eq_nil_of_length_eq_zero (Nat.eq_zero_of_not_pos fun hp => ?_)
    obtain ⟨b, o, e, _⟩ := ha 0 _ (List.getElem?_eq_getElem hp)
    simp at e
   subst hL
   rw [hnone rfl] at hx
   have hrun := run_append_owned_none (P := Tryz.prog) (w := w) base t o.type e i0 m T.te hi0 v 0 _ hown
   unfold Oper.wp
   simp [execOp, ho, resolve, invoke, builtin, hs, hx, hrun, Result.andThen]
   exact h v w (by simpa using hown) (World.grownBy.refl _ _) (.inl rfl)
 | some ad =>
   obtain ⟨v', w', hr, h2, h3, h4, h5⟩ := run_append_own_at (P := Tryz.prog) w base t o.type e i0 z m bytes T.te hi0 hz0 hz1 hz2 T.zs T.pos v 0 _ hown ad R.length cap R.flatten (flat_len hR) (fun k u hk => by
    obtain ⟨j, c, r, h1, h2, rfl⟩ := flat_place hR hk
    obtain ⟨b, o', e, _, h3⟩ := ha j r h1
    simp only [Option.some.injEq] at e
    subst e
    rw [ad_plainR, ← Nat.add_assoc]
    exact h3 c u h2) (flat_one hR) (by omega) (by rw [Nat.zero_add]; exact hby) hbase
   unfold Oper.wp execOp
   simp only [ho, resolve, invoke, builtin, Sem.run_bind, Sem.run_pure, Result.andThen_ok, List.map_toArray, List.map_cons, List.map_nil, hs, hx, hr]
   refine h v' w' ?_ h3 h5
   rw [Nat.zero_add, List.nil_append] at h2
   exact h2
theorem own_sl {w : World} {base : Nat} {e : TypeId} {m n : Nat} {v : Value} {xs : List Value} (h : w.ownsRow base e m v n xs) : ∃ a c, v = .slice a n c := by
 rcases h.2 with ⟨rfl, rfl⟩ | ⟨g, cap, cur, rfl, -⟩
 · exact ⟨_, _, rfl⟩
 · exact ⟨_, _, rfl⟩
end Go.Proofs.YtacinenddnfcbaaGreat

namespace Go.Proofs.YtacinenddnfcbaaGreat
open Go.ChangeShapes Go.WideShapes Go.ChangeAt Go.RowKit Ieee.Own

structure CyI (w w1 : World) (g lt fn fcc : Nat) (fa : Option Addr) (L : List Bo) (i : Nat) (N : List Bm) (v : Value) (wr : World) : Prop where
 eq : N.map Bm.b = L.take i
 le : i ≤ L.length
 gl : g < w1.heap.size
 out_ge : w.heap.size ≤ g
 size : w1.heap.size ≤ wr.heap.size
 same : ∀ b, b < w1.heap.size → b ≠ g → wr.heap[b]? = w1.heap[b]?
 out : BV wr g [.float .f64 lt, .slice fa fn fcc, v]
 own : OwnR 51 18 w.heap.size w (N.map bmC) v wr
 hi : ∀ b, v.ownBlock = some b → w1.heap.size ≤ b
 foot : Foot (fun b => w1.heap.size ≤ b ∧ v.ownBlock ≠ some b) wr fun W => ∀ m ∈ N, BmAt W m
section
variable {w w1 : World} {g lt fn fcc : Nat} {fa : Option Addr} {L : List Bo} {i : Nat} {N : List Bm} {v : Value} {wr : World}
theorem CyI.start (hgg : w.heap.size ≤ g) (hb : Below w.heap.size w w1) (hs : w.heap.size ≤ w1.heap.size) (B : BV w1 g [.float .f64 lt, .slice fa fn fcc, .slice none 0 0]) : CyI w w1 g lt fn fcc fa L 0 [] (.slice none 0 0) w1 :=
 ⟨rfl, Nat.zero_le _, B.lt, hgg, Nat.le_refl _, fun _ _ _ => rfl, B, ⟨hb, World.ownsRow_nil _ _ _ _, hs, ⟨by simp, by simp⟩⟩, (fun b e => by simp [Value.ownBlock] at e), fun W _ _ m hm => by cases hm⟩
theorem CyI.on {wr' : World} (h : CyI w w1 g lt fn fcc fa L i N v wr) (hb : Below wr.heap.size wr wr') : CyI w w1 g lt fn fcc fa L i N v wr' :=
 ⟨h.eq, h.le, h.gl, h.out_ge, Nat.le_trans h.size hb.size, fun b hl hne => (hb.block b (Nat.lt_of_lt_of_le hl h.size)).trans (h.same b hl hne), h.out.on hb, h.own.grow hb, h.hi, h.foot.on hb⟩
theorem CyI.push {wi u w' : World} {v' : Value} {m : Bm} (h : CyI w w1 g lt fn fcc fa L i N v wi) (hil : i < L.length) (hm : m.b = boAt L i) (hu : Below wi.heap.size wi u) (fm : Foot (fun b => wi.heap.size ≤ b) u fun W => BmAt W m)
 (ho : OwnR 51 18 w.heap.size w (N.map bmC ++ [bmC m]) v' w') (hg : (u.alloc (.cells (bmC m).toArray 51)).grownBy w' v.ownBlock) (h4 : v'.ownBlock = v.ownBlock ∨ v'.ownBlock = some (u.heap.size + 1)) :
 CyI w w1 g lt fn fcc fa L (i + 1) (N ++ [m]) v' (w'.setCell ⟨g, 2, none⟩ v') ∧ w'.cell? ⟨g, 2, none⟩ = some v ∧ w'.frozen? ⟨g, 2, none⟩ = false := by
 have hU := h.on hu
 have al := (Below.refl u.heap.size u).alloc (Nat.le_refl _) (.cells (bmC m).toArray 51)
 have hA := hU.on al
 have us : u.heap.size < (u.alloc (.cells (bmC m).toArray 51)).heap.size := by simp
 have gne : some g ≠ v.ownBlock := fun e => by have := h.hi g e.symm; have := h.gl; omega
 have vl : ∀ b, v.ownBlock = some b → b < wi.heap.size := fun b e => (h.own.lt b e).2
 have B2 := hA.out.same hg.size (hg.block g hA.out.lt gne)
 have gs := grown_set w' g 2 v'
 have ss := gs.size
 have key : ∀ b, (w1.heap.size ≤ b ∧ v.ownBlock ≠ some b) ∧ b ≠ u.heap.size + 1 → w1.heap.size ≤ b ∧ v'.ownBlock ≠ some b := fun b ⟨⟨x, y⟩, z⟩ => ⟨x, by
  rcases h4 with q | q
  · rw [q]; exact y
  · rw [q]; intro e; exact z (Option.some.inj e).symm⟩
 have F1 : Foot (fun b => w1.heap.size ≤ b ∧ v'.ownBlock ≠ some b) (w'.setCell ⟨g, 2, none⟩ v') fun W => ∀ x ∈ N, BmAt W x := by
  refine Foot.grow (row := some g) ?_ gs (fun b pb e => by have := h.gl; have := Option.some.inj e; omega)
  refine Foot.imp (P := fun b => (w1.heap.size ≤ b ∧ v.ownBlock ≠ some b) ∧ b ≠ u.heap.size + 1) ?_ (fun b _ pb => key b pb)
  refine Foot.grow (row := v.ownBlock) ?_ hg (fun b pb e => pb.1.2 e.symm)
  exact (hU.foot.imp (fun b hl pb => ⟨pb, by omega⟩)).on al
 have F2 : Foot (fun b => w1.heap.size ≤ b ∧ v'.ownBlock ≠ some b) (w'.setCell ⟨g, 2, none⟩ v') fun W => BmAt W m := by
  refine Foot.grow (row := some g) ?_ gs (fun b pb e => by have := h.gl; have := Option.some.inj e; omega)
  refine Foot.imp (P := fun b => wi.heap.size ≤ b ∧ b ≠ u.heap.size + 1) ?_ (fun b _ pb => key b ⟨⟨Nat.le_trans h.size pb.1, fun e => by have := vl b e; omega⟩, pb.2⟩)
  refine Foot.grow (row := v.ownBlock) ?_ hg (fun b pb e => by have := vl b e.symm; omega)
  exact (fm.imp (fun b hl pb => ⟨pb, by omega⟩)).on al
 refine ⟨⟨?_, hil, h.gl, h.out_ge, Nat.le_trans hA.size (Nat.le_trans hg.size ss), fun b hl hne => ?_, B2.set1 rfl v', ?_, fun b e => ?_, fun W hs hk x hx => ?_⟩, B2.at_ 2 _ rfl, B2.fr 2 _ rfl⟩
 · rw [List.map_append, h.eq, List.map_cons, List.map_nil, hm, List.take_add_one]
   congr 1
   unfold boAt
   simp [List.getD, hil]
 · rw [gs.block b (by have := hA.size; have := hg.size; omega) (fun e => hne (Option.some.inj e)), hg.block b (by have := hA.size; omega) (fun e => by have := h.hi b e.symm; omega)]
   exact hA.same b hl hne
 · rw [List.map_append, List.map_cons, List.map_nil]
   exact ho.kept gs (fun k e => by obtain rfl := Option.some.inj e; have := h.own.size; exact (h.out_ge)) (.inr fun e => by
    rcases h4 with q | q
    · rw [q] at e; exact gne e.symm
    · rw [q] at e; have := Option.some.inj e; have := hU.size; have := h.gl; omega)
 · rcases h4 with q | q
   · rw [q] at e; exact h.hi b e
   · rw [q] at e; have := Option.some.inj e; have := hU.size; omega
 · rcases List.mem_append.1 hx with q | q
   · exact F1 W hs hk x q
   · rw [List.mem_singleton.1 q]; exact F2 W hs hk
end
end Go.Proofs.YtacinenddnfcbaaGreat
