/- Proved here: what the texts Lrw, Lst, Pmr, Psl, Psp, Phs, Pck, Pcb, Psc, Phn, Hcc, Hcd prove, one behind the other. -/
import Derived.Test.YtacinenddnfcbaaGreatJy9
import Derived.Laws.AppendOwn
import Derived.Laws.AppendOwnNone
import Derived.Deep.Slices
import Derived.Deep.Fields
import Derived.ChangeSame
import Derived.Lib.SmallJoins
import Derived.Deep.AppendLies
import Derived.Test.YtacinenddnfcbaaGreatJy3
import Derived.Test.YtacinenddnfcbaaGreatJy6
import Derived.OwnWalk
import Derived.SizedLaws
import Derived.ProofKit
import Derived.OpenShut
import Derived.Carry
import Derived.BigQuiet
import Derived.Test.YtacinenddnfcbaaGreatJy5
import Derived.Test.YtacinenddnfcbaaGreatJy8
import Derived.Test.YtacinenddnfcbaaGreatJy4
import Derived.Deep.CutRange
import Derived.Laws.MakeOwn
import Derived.Laws.OwnMore

set_option maxRecDepth 100000
set_option maxHeartbeats 4000000
namespace Go.Proofs.YtacinenddnfcbaaGreat
open Go.ChangeShapes Go.WideShapes Go.ChangeAt Go.RowKit Go.Joins Go.Deep

def RAt (w : World) (ao : Option Addr) (m : Nat) (R : List (List Value)) : Prop :=
 ∀ j r, R[j]? = some r → ∃ b o, ao = some ⟨b, o, none⟩ ∧ b < w.heap.size ∧ ∀ k u, r[k]? = some u → w.cell? ⟨b, o + j * m + k, none⟩ = some u
theorem RAt.below {w w' : World} {ao : Option Addr} {m B : Nat} {R : List (List Value)} (h : RAt w ao m R) (hB : ∀ b o, ao = some ⟨b, o, none⟩ → 0 < R.length → b < B) (hb : Below B w w') : RAt w' ao m R := by
 intro j r hj
 obtain ⟨b, o, e, hl, h1⟩ := h j r hj
 have hlt : b < B := hB b o e (by have := (List.getElem?_eq_some_iff.1 hj).1; omega)
 exact ⟨b, o, e, Nat.lt_of_lt_of_le hl hb.size, fun k u hu => (hb.cell (p := ⟨b, o + j * m + k, none⟩) hlt).trans (h1 k u hu)⟩
theorem RAt.on {w w' : World} {ao : Option Addr} {m : Nat} {R : List (List Value)} (h : RAt w ao m R) (hb : Below w.heap.size w w') : RAt w' ao m R := by
 intro j r hj
 obtain ⟨b, o, e, hl, h1⟩ := h j r hj
 exact ⟨b, o, e, Nat.lt_of_lt_of_le hl hb.size, fun k u hu => (hb.cell (p := ⟨b, o + j * m + k, none⟩) hl).trans (h1 k u hu)⟩
theorem RAt.lt {w : World} {ao : Option Addr} {m : Nat} {R : List (List Value)} (h : RAt w ao m R) : ∀ b o, ao = some ⟨b, o, none⟩ → 0 < R.length → b < w.heap.size := by
 rintro b o rfl hl
 obtain ⟨b', o', e, hb, _⟩ := h 0 (R[0]'hl) (List.getElem?_eq_getElem hl)
 simp at e
 obtain ⟨rfl, rfl⟩ := e
 exact hb
theorem RAt.alloc {w : World} {ao : Option Addr} {m : Nat} {R : List (List Value)} (h : RAt w ao m R) (o : Obj) : RAt (w.alloc o) ao m R := h.on ((Below.refl _ _).alloc (Nat.le_refl _) o)
theorem RAt.drew {w : World} {ao : Option Addr} {m : Nat} {R : List (List Value)} (h : RAt w ao m R) (n : Nat) : RAt (w.drewN n) ao m R := h

structure RowsOk (m : Nat) (R : List (List Value)) : Prop where
 len : ∀ r ∈ R, r.length = m
 one : ∀ r ∈ R, ∀ u ∈ r, u.oneCell' = true
theorem RowsOk.tail {m : Nat} {r : List Value} {R : List (List Value)} (h : RowsOk m (r :: R)) : RowsOk m R := ⟨fun x hx => h.len x (List.mem_cons_of_mem _ hx), fun x hx => h.one x (List.mem_cons_of_mem _ hx)⟩
theorem flat_len {m : Nat} : ∀ {R : List (List Value)}, RowsOk m R → R.flatten.length = R.length * m
 | [], _ => by simp
 | r :: R, h => by
   rw [List.flatten_cons, List.length_append, flat_len h.tail, h.len r (List.mem_cons_self ..), List.length_cons, Nat.add_mul]; omega
theorem flat_at {m : Nat} : ∀ {R : List (List Value)}, RowsOk m R → ∀ {j c : Nat} {r : List Value} {u : Value}, R[j]? = some r → r[c]? = some u → R.flatten[j * m + c]? = some u
 | [], _, j, c, r, u, h, _ => by simp at h
 | q :: R, h, 0, c, r, u, hj, hc => by
   simp at hj
   subst hj
   have hl := (List.getElem?_eq_some_iff.1 hc).1
   rw [List.flatten_cons, Nat.zero_mul, Nat.zero_add, List.getElem?_append_left hl]
   exact hc
 | q :: R, h, j + 1, c, r, u, hj, hc => by
   have hq := h.len q (List.mem_cons_self ..)
   rw [List.flatten_cons, List.getElem?_append_right (by rw [hq, Nat.add_mul]; omega), hq]
   have e : (j + 1) * m + c - m = j * m + c := by rw [Nat.add_mul]; omega
   rw [e]
   exact flat_at h.tail (by simpa using hj) hc
theorem flat_place {m : Nat} : ∀ {R : List (List Value)}, RowsOk m R → ∀ {k : Nat} {u : Value}, R.flatten[k]? = some u → ∃ j c r, R[j]? = some r ∧ r[c]? = some u ∧ k = j * m + c
 | [], _, k, u, h => by simp at h
 | q :: R, h, k, u, hk => by
   have hq := h.len q (List.mem_cons_self ..)
   rw [List.flatten_cons] at hk
   by_cases hl : k < q.length
   · rw [List.getElem?_append_left hl] at hk
     exact ⟨0, k, q, by simp, hk, by omega⟩
   · rw [List.getElem?_append_right (by omega), hq] at hk
     obtain ⟨j, c, r, h1, h2, h3⟩ := flat_place h.tail hk
     exact ⟨j + 1, c, r, by simpa using h1, h2, by rw [Nat.add_mul]; omega⟩
theorem flat_one {m : Nat} {R : List (List Value)} (h : RowsOk m R) : ∀ u ∈ R.flatten, u.oneCell' = true := by
 intro u hu
 obtain ⟨r, hr, hu⟩ := List.mem_flatten.1 hu
 exact h.one r hr u hu
theorem info_ofR {P : Program} {t : TypeId} {z : Value} {s b : Nat} (h : (P.info? t).map (fun i => (i.zero, i.size, i.bytes)) = some (some z, s, b)) : ∃ i, P.info? t = some i ∧ i.zero = some z ∧ i.size = s ∧ i.bytes = b := by
 cases hi : P.info? t with
 | none => rw [hi] at h; cases h
 | some i =>
   rw [hi] at h
   simp only [Option.map_some, Option.some.injEq, Prod.mk.injEq] at h
   exact ⟨i, rfl, h.1, h.2.1, h.2.2⟩
theorem ad_plainR (b o i : Nat) : (⟨b, o, none⟩ : Addr).add i = ⟨b, o + i, none⟩ := by
 unfold Addr.add
 split
 · rename_i h; subst h; rfl
 · rfl
structure RecT (t e : TypeId) (m bytes : Nat) (z : Value) : Prop where
 te : Tryz.prog.underlying t = some (.slice e)
 info : (Tryz.prog.info? e).map (fun i => (i.zero, i.size, i.bytes)) = some (some z, m, bytes)
 zs : z.cells.size = m
 pos : 0 < m
theorem wp_dupR {w : World} {o : Oper} {a : Act} {K : Act → World → Prop} {Q : Exit → Act → World → Prop} {t e : TypeId} {m bytes : Nat} {z : Value} (T : RecT t e m bytes z) (s x : Operand)
 (ho : o.op = .call { callee := .builtin .append, args := #[s, x], argTypes := #[t, t] }) (base : Nat) (v : Value) (us : List (List Value)) (hs : a.eval s = v)
 (hown : w.ownsRow base e m v us.length us.flatten) (ao : Option Addr) (n cap : Nat) (R : List (List Value)) (hx : a.eval x = .slice ao n cap) (hn : n = R.length) (hnone : ao = none → cap = 0) (ha : RAt w ao m R) (hR : RowsOk m R)
 (hmax : us.length + R.length ≤ maxLen) (hby : (us.length + R.length) * bytes ≤ 140737488355328) (hbase : base ≤ w.heap.size)
 (h : ∀ v' w', w'.ownsRow base e m v' (us ++ R).length (us ++ R).flatten → w.grownBy w' v.ownBlock → K (a.put o.dst v') w') :
 o.wp Tryz.prog a w K Q := by
 obtain ⟨i0, hi0, hz0, hz1, hz2⟩ := info_ofR T.info
 subst hn
 cases ao with
 | none =>
   have hL : R = [] := by
    refine List.eq_nil_of_length_eq_zero (Nat.eq_zero_of_not_pos fun hp => ?_)
    obtain ⟨b, o, e, _⟩ := ha 0 _ (List.getElem?_eq_getElem hp)
    simp at e
   subst hL
   rw [hnone rfl] at hx
   have hrun := run_append_owned_none (P := Tryz.prog) (w := w) base t o.type e i0 m T.te hi0 v us.length _ hown
   unfold Oper.wp
   simp [execOp, ho, resolve, invoke, builtin, hs, hx, hrun, Result.andThen]
   exact h v w (by simpa using hown) (World.grownBy.refl _ _)
 | some ad =>
   refine wp_append_own w s x t ho base e i0 z m bytes T.te hi0 hz0 hz1 hz2 T.zs T.pos v us.length _ hs hown ad R.length cap R.flatten hx (flat_len hR) ?_ (flat_one hR) hmax hby hbase ?_
   · intro k u hk
     obtain ⟨j, c, r, h1, h2, rfl⟩ := flat_place hR hk
     obtain ⟨b, o', e, _, h3⟩ := ha j r h1
     simp only [Option.some.injEq] at e
     subst e
     rw [ad_plainR, ← Nat.add_assoc]
     exact h3 c u h2
   · intro v' w' h1 h2 _
     exact h v' w' (by rw [List.flatten_append, List.length_append]; exact h1) h2
structure CopiedR (w w' : World) (ao' : Option Addr) (n cap' m : Nat) (R : List (List Value)) : Prop where
 room : n ≤ cap'
 most : cap' ≤ maxLen
 bare : ao' = none → cap' = 0
 at_ : RAt w' ao' m R
 old : Below w.heap.size w w'
 own : ∀ b o, ao' = some ⟨b, o, none⟩ → o = 0 ∧ w.heap.size ≤ b ∧ ∀ k, k < n * m → w'.frozen? ⟨b, k, none⟩ = false
theorem ownsR_at {w : World} {base m : Nat} {e : TypeId} {v : Value} {us : List (List Value)} (hu : RowsOk m us) (h : w.ownsRow base e m v us.length us.flatten) :
 ∃ ao cap, v = .slice ao us.length cap ∧ us.length ≤ cap ∧ cap ≤ maxLen ∧ RAt w ao m us ∧ (ao = none → cap = 0) ∧ ∀ b o, ao = some ⟨b, o, none⟩ → o = 0 ∧ base ≤ b ∧ ∀ k, k < us.length * m → w.frozen? ⟨b, k, none⟩ = false := by
 rcases h.2 with ⟨rfl, h0⟩ | ⟨g, cap, cur, rfl, hg, hr, hn, hcm, hsz, ht⟩
 · have hu : us = [] := List.eq_nil_of_length_eq_zero h0
   subst hu
   exact ⟨none, 0, rfl, Nat.le_refl _, by decide, by intro j r hj; simp at hj, fun _ => rfl, by intro b o e; simp at e⟩
 · have hc : ∀ j u, us.flatten[j]? = some u → w.cell? ⟨g, j, none⟩ = some u := by
    intro j u hj
    have hjl : j < us.length * m := by rw [← flat_len hu]; exact (List.getElem?_eq_some_iff.1 hj).1
    rw [cell_of_row w g j cur _ _ hr]
    rw [← ht, List.getElem?_take, if_pos hjl, Array.getElem?_toList] at hj
    exact hj
   refine ⟨_, cap, rfl, hn, hcm, fun j r hj => ⟨g, 0, rfl, (Array.getElem?_eq_some_iff.1 hr).1, fun k u hk => ?_⟩, by intro e; simp at e, ?_⟩
   · rw [Nat.zero_add]; exact hc _ _ (flat_at hu hj hk)
   · intro b o e
     simp only [Option.some.injEq, Addr.mk.injEq, and_true] at e
     obtain ⟨rfl, rfl⟩ := e
     exact ⟨rfl, hg, fun k _ => frozen_of_row w g k cur _ hr⟩
theorem ownsR_empty (w : World) (e : TypeId) (m : Nat) : (w.alloc (.cells #[] e)).ownsRow w.heap.size e m (.slice (some ⟨w.heap.size, 0, none⟩) 0 0) ([] : List (List Value)).length ([] : List (List Value)).flatten := by
 have := World.ownsRow_lit w #[] (e := e) (size := m) 0 (Nat.le_refl _) (by decide) (by simp)
 exact this
theorem wpList_copyR {w : World} {ops : Array Oper} {rest : List Oper} {o : Oper} {a : Act} {Q : Exit → Act → World → Prop} {t e : TypeId} {m bytes : Nat} {z : Value} (T : RecT t e m bytes z) (hgd : o.guard = none) (s x : Operand)
 (ho : o.op = .call { callee := .builtin .append, args := #[s, x], argTypes := #[t, t] }) (hs : a.eval s = .slice (some ⟨w.heap.size, 0, none⟩) 0 0)
 (ao : Option Addr) (n cap : Nat) (R : List (List Value)) (hx : a.eval x = .slice ao n cap) (hn : n = R.length) (hnone : ao = none → cap = 0) (ha : RAt w ao m R) (hR : RowsOk m R) (hmax : n ≤ maxLen) (hr : n * bytes ≤ 140737488351232)
 (h : ∀ ao' cap' w', CopiedR w w' ao' n cap' m R → wpList Tryz.prog ops Q rest (a.put o.dst (.slice ao' n cap')) w') :
 wpList Tryz.prog ops Q (o :: rest) a (w.alloc (.cells #[] e)) := by
 have B1 := (Below.refl w.heap.size w).alloc (Nat.le_refl _) (.cells #[] e)
 refine wpList_plain hgd fun _ hK => wp_dupR T s x ho w.heap.size _ [] hs (ownsR_empty w e m) ao n cap R hx hn hnone (ha.alloc _) hR (by simp; omega) (by simp; rw [← hn]; omega) (by simp) fun v' w' ho' hg' => hK _ _ ?_
 have B2 : Below w.heap.size w w' := B1.grown hg' (by simp) (by intro k hk; simp [Value.ownBlock] at hk; omega)
 rw [List.nil_append] at ho'
 obtain ⟨ao', cap', rfl, h1, h2, h3, h4, h5⟩ := ownsR_at hR ho'
 rw [← hn] at h1 h5 ⊢
 exact h ao' cap' w' ⟨h1, h2, h4, h3, B2, h5⟩
theorem RAt.set1 {w : World} {b m : Nat} {R : List (List Value)} (h : RAt w (some ⟨b, 0, none⟩) m R) (hR : RowsOk m R) {j c : Nat} {r : List Value} {u : Value} (hj : R[j]? = some r) (hc : r[c]? = some u) (v : Value) :
 RAt (w.setCell ⟨b, j * m + c, none⟩ v) (some ⟨b, 0, none⟩) m (R.set j (r.set c v)) := by
 have hjl := (List.getElem?_eq_some_iff.1 hj).1
 have hcl := (List.getElem?_eq_some_iff.1 hc).1
 have hm : c < m := by rw [← hR.len r (List.mem_of_getElem? hj)]; exact hcl
 obtain ⟨b0, o0, e0, hb, hcell⟩ := h j r hj
 simp only [Option.some.injEq, Addr.mk.injEq, and_true] at e0
 obtain ⟨rfl, rfl⟩ := e0
 intro i q hq
 refine ⟨b, 0, rfl, by simpa using hb, fun k x hx => ?_⟩
 by_cases hij : j = i
 · subst hij
   rw [List.getElem?_set_self hjl] at hq
   obtain rfl := Option.some.inj hq
   by_cases hk : c = k
   · subst hk
     rw [List.getElem?_set_self hcl] at hx
     obtain rfl := Option.some.inj hx
     rw [Nat.zero_add]
     have h2 := hcell c u hc
     rw [Nat.zero_add] at h2
     exact World.cell?_setCell_same _ _ _ h2
   · rw [List.getElem?_set_ne hk] at hx
     rw [Nat.zero_add, World.cell?_setCell_other _ _ _ _ (fun e => by simp at e <;> omega)]
     have h2 := hcell k x hx
     rwa [Nat.zero_add] at h2
 · rw [List.getElem?_set_ne hij] at hq
   have hk : k < m := by rw [← hR.len q (List.mem_of_getElem? hq)]; exact (List.getElem?_eq_some_iff.1 hx).1
   have hne : j * m + c ≠ i * m + k := by
    intro e
    rcases Nat.lt_or_ge j i with g | g
    · have := Nat.mul_le_mul_right m (show j + 1 ≤ i by omega)
      rw [Nat.add_mul] at this
      omega
    · have := Nat.mul_le_mul_right m (show i + 1 ≤ j by omega)
      rw [Nat.add_mul] at this
      omega
   rw [Nat.zero_add, World.cell?_setCell_other _ _ _ _ (fun e => by simp at e <;> omega)]
   obtain ⟨b1, o1, e1, -, h2⟩ := h i q hq
   simp only [Option.some.injEq, Addr.mk.injEq, and_true] at e1
   obtain ⟨rfl, rfl⟩ := e1
   have h3 := h2 k x hx
   rwa [Nat.zero_add] at h3
theorem RowsOk.set {m : Nat} {R : List (List Value)} (h : RowsOk m R) {j : Nat} {r : List Value} (hr : r.length = m) (ho : ∀ u ∈ r, u.oneCell' = true) : RowsOk m (R.set j r) := by
 refine ⟨fun x hx => ?_, fun x hx => ?_⟩
 · rcases List.mem_or_eq_of_mem_set hx with q | q
   · exact h.len x q
   · exact q ▸ hr
 · rcases List.mem_or_eq_of_mem_set hx with q | q
   · exact h.one x q
   · exact q ▸ ho
structure OwnR (e : TypeId) (m : Nat) (base : Nat) (w : World) (R : List (List Value)) (v : Value) (w' : World) : Prop where
 old : Below base w w'
 own : w'.ownsRow base e m v R.length R.flatten
 size : base ≤ w'.heap.size
 ok : RowsOk m R
theorem OwnR.grow {e : TypeId} {m base : Nat} {w w1 w2 : World} {R : List (List Value)} {v : Value} (h : OwnR e m base w R v w1) (hb : Below w1.heap.size w1 w2) : OwnR e m base w R v w2 := by
 refine ⟨h.old.trans (hb.mono h.size), ⟨h.own.1, ?_⟩, Nat.le_trans h.size hb.size, h.ok⟩
 rcases h.own.2 with hn | ⟨g, cap, cur, hv, hg, hr, rest⟩
 · exact .inl hn
 · exact .inr ⟨g, cap, cur, hv, hg, by rw [hb.block g (Array.getElem?_eq_some_iff.1 hr).1]; exact hr, rest⟩
theorem OwnR.nil (e : TypeId) (m : Nat) (w : World) : OwnR e m w.heap.size w [] (.slice none 0 0) w := ⟨Below.refl _ _, World.ownsRow_nil _ _ _ _, Nat.le_refl _, ⟨by simp, by simp⟩⟩
theorem wpList_pushR {w0 w : World} {base : Nat} {ops : Array Oper} {rest : List Oper} {o : Oper} {a : Act} {Q : Exit → Act → World → Prop} {t e : TypeId} {m bytes : Nat} {z : Value} (T : RecT t e m bytes z) (hgd : o.guard = none) (s x : Operand)
 (ho : o.op = .call { callee := .builtin .append, args := #[s, x], argTypes := #[t, t] }) (v : Value) (R : List (List Value)) (hs : a.eval s = v)
 (hown : OwnR e m base w0 R v w) (r : List Value) (hr : r.length = m) (h1 : ∀ u ∈ r, u.oneCell' = true) (hx : a.eval x = .slice (some ⟨w.heap.size, 0, none⟩) 1 1) (hl : (R.length + 1) * bytes ≤ 140737488355328) (hmax : R.length + 1 ≤ maxLen)
 (h : ∀ v' w', OwnR e m base w0 (R ++ [r]) v' w' → wpList Tryz.prog ops Q rest (a.put o.dst v') w') :
 wpList Tryz.prog ops Q (o :: rest) a (w.alloc (.cells r.toArray e)) := by
 obtain ⟨i0, hi0, hz0, hz1, hz2⟩ := info_ofR T.info
 have hb := (Below.refl w.heap.size w).alloc (Nat.le_refl _) (.cells r.toArray e)
 have ho2 := hown.grow hb
 refine wpList_append_own (w.alloc (.cells r.toArray e)) hgd s x t ho base e i0 z m bytes T.te hi0 hz0 hz1 hz2 T.zs T.pos v R.length _ hs ho2.own ⟨w.heap.size, 0, none⟩ 1 1 r hx (by rw [hr, Nat.one_mul]) ?_ h1 hmax hl ho2.size ?_
 · intro j u hj
   rw [ad_plainR, World.cell?_alloc_at _ _ _ _ rfl, Nat.zero_add]
   simpa using hj
 · intro v' w' h1' h2 _
   refine h v' w' ⟨ho2.old.grown h2 ho2.size ?_, ?_, Nat.le_trans ho2.size h2.size, ?_⟩
   · intro k hk
     rcases ho2.own.2 with ⟨hv, _⟩ | ⟨g, cap, cur, hv, hg, _⟩
     · rw [hv] at hk; simp [Value.ownBlock] at hk
     · rw [hv] at hk
       simp only [Value.ownBlock, Option.some.injEq] at hk
       rw [← hk]; exact hg
   · rw [List.length_append, List.flatten_append]
     simpa using h1'
   · refine ⟨fun q hq => ?_, fun q hq => ?_⟩
     · rcases List.mem_append.1 hq with hq | hq
       · exact hown.ok.len q hq
       · rw [List.mem_singleton.1 hq]; exact hr
     · rcases List.mem_append.1 hq with hq | hq
       · exact hown.ok.one q hq
       · rw [List.mem_singleton.1 hq]; exact h1
section
variable {H : Type} {enc : TypeId × Value → H}
theorem open_rows {W : World} {v : Value} {d : DataW H} {ps : List MemPlace} {t e : TypeId} {m : Nat} (Good : List Value → Prop) (te : Tryz.prog.underlying t = some (.slice e)) (hC : Tryz.prog.cellsOf e = m) (hm0 : 0 < m)
 (rd : ∀ n cs y, cs.length = m → DataW.trod enc Tryz.prog W 0 (fun _ => true) true n e cs = some y → Good cs)
 (hval : ∃ ao n c, v = .slice ao n c) (h : DataW.Trod enc Tryz.prog W 0 (fun _ => true) true t v d ps) :
 ∃ ao cap R, v = .slice ao (List.length R) cap ∧ R.length ≤ cap ∧ cap ≤ maxLen ∧ RAt W ao m R ∧ (∀ r ∈ R, Good r ∧ r.length = m) ∧ ((ao = none ∧ cap = 0) ∨ ((∃ a, ao = some a) ∧ ∃ es sp : List (DataW H), d = .slice es sp ∧ es.length + sp.length = cap)) := by
 obtain ⟨a0, n0, c0, rfl⟩ := hval
 obtain ⟨fuel, hf⟩ := h
 rcases open_slice te hf with ⟨h1, _⟩ | ⟨a, len, cap, k, n, D, Pl, h1, _, hl, hm, hmm, hx, hcell⟩
 · simp [Value.cells] at h1
   obtain ⟨rfl, rfl, rfl⟩ := h1
   exact ⟨none, 0, [], rfl, Nat.le_refl _, by decide, by intro j r hj; simp at hj, by intro r hr; simp at hr, Or.inl ⟨rfl, rfl⟩⟩
 · simp [Value.cells] at h1
   obtain ⟨rfl, rfl, rfl⟩ := h1
   simp only [if_true] at hmm
   subst hmm
   rw [hC] at hcell
   obtain ⟨F, hF⟩ := Deep.choose_lt (n := k) (p := fun i (q : List Value) => W.cells? 0 (a.add (i * m)) m = some q ∧ Good q) (fun i hi => by
    obtain ⟨cs, h1, h2⟩ := hcell i hi
    have hl := (World.cells?_some h1).2.1
    exact ⟨cs, h1, rd n cs _ hl h2⟩)
   refine ⟨some a, k, (List.range n0).map F, by simp, by simpa using hl, hm, ?_, ?_, Or.inr ⟨⟨a, rfl⟩, (List.range n0).map D, (List.range (k - n0)).map fun j => D (n0 + j), by simpa using (congrArg Prod.fst hx), by simp; omega⟩⟩
   · intro j r hj
     have hjl : j < n0 := by have := (List.getElem?_eq_some_iff.1 hj).1; simpa using this
     have hr : r = F j := by
        have : ((List.range n0).map F)[j]? = some (F j) := by simp [hjl]
        rw [this] at hj
        exact (Option.some.inj hj).symm
     subst hr
     obtain ⟨h1, -⟩ := hF j (by omega)
     obtain ⟨_, hlen, hat⟩ := World.cells?_some h1
     obtain ⟨b, o, s⟩ := a
     have hv : (F j)[0]? = some ((F j)[0]'(by omega)) := List.getElem?_eq_getElem (by omega)
     have hc0 := (hat 0 hm0).trans hv
     have hsp : s = none := by
        obtain ⟨g1, -⟩ := hF 0 (by omega)
        obtain ⟨_, hlen1, hat1⟩ := World.cells?_some g1
        have hv1 : (F 0)[0]? = some ((F 0)[0]'(by omega)) := List.getElem?_eq_getElem (by omega)
        have hc1 := (hat1 0 hm0).trans hv1
        simpa [Addr.add] using World.cell?_spot hc1
     subst hsp
     rw [ad_plainR, ad_plainR] at hc0
     refine ⟨b, o, rfl, World.block_lt_of_cell? W _ hc0, fun c u hu => ?_⟩
     have hcl := (List.getElem?_eq_some_iff.1 hu).1
     have h2 := (hat c (by omega)).trans hu
     rwa [ad_plainR, ad_plainR] at h2
   · intro r hr
     obtain ⟨j, hj, rfl⟩ := List.mem_map.1 hr
     have hj' := List.mem_range.1 hj
     obtain ⟨h1, h2⟩ := hF j (by omega)
     exact ⟨h2, (World.cells?_some h1).2.1⟩
end
end Go.Proofs.YtacinenddnfcbaaGreat

namespace Go.Proofs.YtacinenddnfcbaaGreat
open Go.ChangeShapes Go.WideShapes Go.ChangeAt Go.RowKit Ieee.Own

theorem infoF : (Tryz.prog.info? 22).map (fun i => (i.zero, i.size, i.bytes)) = some (some (.float .f64 0), 1, 8) := by kernel_rfl
def At (w : World) (ao : Option Addr) (L : List Nat) : Prop := ∀ j, j < L.length → ∃ b o, ao = some ⟨b, o, none⟩ ∧ w.cell? ⟨b, o + j, none⟩ = some (.float .f64 (L.getD j 0))
def Words (L : List Nat) : Prop := ∀ x ∈ L, x < 18446744073709551616
theorem Words.at {L : List Nat} (h : Words L) {j : Nat} (hj : j < L.length) : L.getD j 0 < 18446744073709551616 := h _ (by simp [List.getD, hj])
theorem At.lt {w : World} {ao : Option Addr} {L : List Nat} (h : At w ao L) : ∀ b o, ao = some ⟨b, o, none⟩ → 0 < L.length → b < w.heap.size := by
 rintro b o rfl hl
 obtain ⟨b', o', e, hc⟩ := h 0 hl
 simp at e
 obtain ⟨rfl, rfl⟩ := e
 exact World.block_lt_of_cell? w _ hc
theorem Drawn.trans {w w' w'' : World} (h : Drawn w w') (k : Drawn w' w'') : Drawn w w'' := by
 obtain ⟨m, rfl⟩ := k; exact h.more m
theorem At.alloc {w : World} {ao : Option Addr} {L : List Nat} (h : At w ao L) (o : Obj) : At (w.alloc o) ao L := by
 intro j hj
 obtain ⟨b, o', e, hc⟩ := h j hj
 exact ⟨b, o', e, by rw [World.cell?_alloc_past _ _ _ (World.block_lt_of_cell? w _ hc)]; exact hc⟩
theorem At.left {w : World} {ao : Option Addr} {L M : List Nat} (h : At w ao (L ++ M)) : At w ao L := by
 intro j hj
 obtain ⟨b, o, e, hc⟩ := h j (by simp; omega)
 exact ⟨b, o, e, by rw [hc]; simp [List.getD, List.getElem?_append_left hj]⟩
end Go.Proofs.YtacinenddnfcbaaGreat

namespace Go.Proofs.YtacinenddnfcbaaGreat
open Ieee.Own Pol

def Nsm (L : Nat) (z : Int) : Prop := z = 0 ∨ 2 ^ L ≤ z.natAbs
theorem Nsm.dvd {L : Nat} {b : Nat} (h : Nsm (L + 53) (V b)) : (2 : Int) ^ L ∣ V b := by
 rcases h with h | h
 · rw [h]; exact Int.dvd_zero _
 · exact dvd_big h
theorem Nsm.le {L K : Nat} {z : Int} (h : Nsm L z) (hk : K ≤ L) : Nsm K z := h.imp id fun h => Nat.le_trans (two_le hk) h
theorem Nsm.RN {L : Nat} {z : Int} (h : Nsm L z) : Nsm L (RN z) := by
 rcases h with h | h
 · left; rw [h]; rfl
 · right
   rw [RN_abs]
   have := rn_mono h
   rwa [show rn (2 ^ L) = 2 ^ L by have := rn_exact 1 L (by omega); simpa using this] at this
end Go.Proofs.YtacinenddnfcbaaGreat

namespace Go.Proofs.YtacinenddnfcbaaGreat
open Ieee.Own Pol

structure Fw (c : Nat) : Prop extends Cw c where
 big : Nsm (820 + 53 + 1) (V c)
end Go.Proofs.YtacinenddnfcbaaGreat

namespace Go.Proofs.YtacinenddnfcbaaGreat
open Go.ChangeShapes Go.WideShapes Go.ChangeAt Go.RowKit Ieee.Own

def hw (a b : Nat) : Nat := (1053 + 10 * b) * 4503599627370496 + a * 281474976710656
end Go.Proofs.YtacinenddnfcbaaGreat

namespace Go.Proofs.YtacinenddnfcbaaGreat
open Go.ChangeShapes Go.WideShapes Go.ChangeAt Go.RowKit Ieee.Own Pol

structure Fc (c : Nat) : Prop where
 lt : c < 18446744073709551616
 fit : fitB c = true
 bd : (V c).natAbs ≤ 2 ^ 1114
end Go.Proofs.YtacinenddnfcbaaGreat

namespace Go.Proofs.YtacinenddnfcbaaGreat
open Go.ChangeShapes Go.WideShapes Go.ChangeAt Go.RowKit Ieee.Own

def inM (m x : Nat) : Bool := decide (fitB x = true ∧ x % 9223372036854775808 ≤ m)
def m40 : Nat := 4787326403894837248
def m00 : Nat := 4607182418800017408
def errC (L : List Nat) : Int := if 16 < L.length then 2 else if L.all (inM m40) = true then 0 else 3
def errX (m : Nat) (L : List Nat) (x : Nat) : Int := if errC L = 0 then (if inM m x = true then 0 else 3) else errC L
theorem all_at {f : Nat → Bool} {L : List Nat} : L.all f = true ↔ ∀ j, j < L.length → f (L.getD j 0) = true := by
 rw [List.all_eq_true]
 constructor
 · intro h j hj; exact h _ (by simp [List.getD, hj])
 · intro h x hx
   obtain ⟨j, hj, rfl⟩ := List.mem_iff_getElem.1 hx
   have := h j hj
   simpa [List.getD, hj] using this
theorem inM_bd {m x : Nat} (hx : x < 18446744073709551616) (h : inM m x = true) : FinW x ∧ fitB x = true ∧ (V x).natAbs ≤ val 52 m := by
 unfold inM at h
 rw [decide_eq_true_eq] at h
 have f := fit_fin hx h.1
 refine ⟨f, h.1, ?_⟩
 rw [V_abs' x f]
 by_cases q : x % 9223372036854775808 = m
 · rw [q]; exact Nat.le_refl _
 · exact Nat.le_of_lt (val_lt (by omega))
theorem m40_V : val 52 m40 = 2 ^ 1114 := by decide +kernel
theorem m00_V : val 52 m00 = 2 ^ 1074 := by decide +kernel
theorem inM_fc {x : Nat} (hx : x < 18446744073709551616) (h : inM m40 x = true) : Fc x := by
 have := inM_bd hx h
 rw [m40_V] at this
 exact ⟨hx, this.2.1, this.2.2⟩
theorem errC_zero {L : List Nat} (hw : Words L) (h : errC L = 0) : L.length ≤ 16 ∧ ∀ c ∈ L, Fc c := by
 unfold errC at h
 split at h
 · omega
 · rename_i h1
   split at h
   · rename_i h2
     rw [List.all_eq_true] at h2
     exact ⟨by omega, fun c hc => inM_fc (hw c hc) (h2 c hc)⟩
   · omega
theorem errX_zero {m x : Nat} {L : List Nat} (h : errX m L x = 0) : errC L = 0 ∧ inM m x = true := by
 unfold errX at h
 split at h
 · rename_i c
   split at h
   · rename_i d; exact ⟨c, d⟩
   · omega
 · rename_i c; exact absurd h c
theorem pwithin_run (m x : Nat) (hm : m < 9218868437227405312) (hx : x < 18446744073709551616) (w : World) :
 Calls Tryz.prog 260 #[.float .f64 x, .float .f64 m] w fun e w' => e = .returned (.bool (inM m x)) ∧ w = w' := by
 have CF := fun w => fit_any x hx w
 have CA := fun w => abs_any x hx w
 have g := o_leq (x % 9223372036854775808) m (by omega) (by omega)
 rw [key_low (by omega), key_low (by omega)] at g
 by_cases h1 : fitB x = true
 · have fn := fit_fin hx h1
   have m' := fn.2
   rw [h1] at CF
   have n1 : nn (x % 9223372036854775808) := by unfold nn; omega
   have n2 : nn m := by unfold nn; omega
   have e : inM m x = decide (x % 9223372036854775808 ≤ m) := by unfold inM; rw [h1]; simp
   by_cases h2 : x % 9223372036854775808 ≤ m
   · rw [decide_eq_true ⟨n1, n2, by omega⟩] at g
     rw [e, decide_eq_true h2]
     clear hx h1 fn m' h2 e hm n1 n2
     generalize x % 9223372036854775808 = y at *
     go_enter Tryz.func260, Tryz.ntmps260
     go_wp2_with (first | (go_at_call 72; ((with_reducible refine (CF _).mono ?_); rintro e w' ⟨rfl, rfl⟩)) | (go_at_call 37; ((with_reducible refine (CA _).mono ?_); rintro e w' ⟨rfl, rfl⟩)))
     go_ret
     exact ⟨rfl, rfl⟩
   · rw [decide_eq_false (fun h => h2 (by have := h.2.2; omega))] at g
     rw [e, decide_eq_false h2]
     clear hx h1 fn m' h2 e hm n1 n2
     generalize x % 9223372036854775808 = y at *
     go_enter Tryz.func260, Tryz.ntmps260
     go_wp2_with (first | (go_at_call 72; ((with_reducible refine (CF _).mono ?_); rintro e w' ⟨rfl, rfl⟩)) | (go_at_call 37; ((with_reducible refine (CA _).mono ?_); rintro e w' ⟨rfl, rfl⟩)))
     go_ret
     exact ⟨rfl, rfl⟩
 · have e : inM m x = false := decide_eq_false (fun h => h1 h.1)
   rw [Bool.not_eq_true] at h1
   rw [h1] at CF
   rw [e]
   clear hx h1 e g hm
   go_enter Tryz.func260, Tryz.ntmps260
   go_wp2_with (first | (go_at_call 72; ((with_reducible refine (CF _).mono ?_); rintro e w' ⟨rfl, rfl⟩)) | (go_at_call 37; ((with_reducible refine (CA _).mono ?_); rintro e w' ⟨rfl, rfl⟩)))
   go_ret
   exact ⟨rfl, rfl⟩

theorem pcheck_run (ao : Option Addr) (cap n : Nat) (L : List Nat) (w : World) (hn : n = L.length) (hm : n ≤ 4611686018427387904) (hw : Words L) (ha : At w ao L) :
 Calls Tryz.prog 258 #[.slice ao n cap] w fun e w' => e = .returned (.int .i64 (errC L)) ∧ w = w' := by
 by_cases hbig : 16 < n
 · have hE : errC L = 2 := by unfold errC; rw [if_pos (by omega)]
   rw [hE]
   clear hE ha hw hn
   go_enter Tryz.func258, Tryz.ntmps258
   go_wp2_with fail
   go_ret
   exact ⟨rfl, rfl⟩
 have hE : errC L = if L.all (inM m40) = true then 0 else 3 := by unfold errC; rw [if_neg (by omega)]
 have hF := all_at (f := inM m40) (L := L)
 replace hn := Lib.hid hn
 replace hw := Lib.hid hw
 replace ha := Lib.hid ha
 replace hE := Lib.hid hE
 replace hF := Lib.hid hF
 go_enter Tryz.func258, Tryz.ntmps258
 go_wp2_with fail
 go_loop [10] (fun iv => ∃ i : Nat, i ≤ n ∧ iv = .int .i64 i ∧ ∀ j, j < i → inM m40 (L.getD j 0) = true) (fun iv => n - (intOf iv).toNat)
 case atStart => exact ⟨0, Nat.zero_le _, rfl, fun j hj => by omega⟩
 case round =>
  obtain ⟨i, hi, rfl, hall⟩ := hrel
  replace hall := Lib.hid hall
  by_cases hlt : i < n
  · have hil : i < L.length := by have := hn.out; omega
    obtain ⟨b, o, rfl, hc⟩ := ha.out i hil
    have C := fun w => pwithin_run m40 _ (by decide) (hw.out.at hil) w
    by_cases hf : inM m40 (L.getD i 0) = true
    · have hall' : Hid (∀ j, j < i + 1 → inM m40 (L.getD j 0) = true) := by
       intro j hj
       by_cases e : j = i
       · rw [e]; exact hf
       · exact hall.out j (by omega)
      rw [hf] at C
      obtain ⟨u, hu⟩ : ∃ u, u = L.getD i 0 := ⟨_, rfl⟩
      rw [← hu] at hc C
      unfold m40 at C
      clear hu hf hil hall
      go_wp2_with (go_at_call 260; ((with_reducible refine (C _).mono ?_); rintro e w' ⟨rfl, rfl⟩))
      go_round
      case rel => exact ⟨i + 1, hlt, by go_num, hall'.out⟩
      case measure => simp [intOf]; omega
    · have hE2 : Hid (errC L = 3) := by
       show errC L = 3
       rw [hE.out, if_neg (fun h => hf (hF.out.1 h i hil))]
      rw [Bool.not_eq_true] at hf
      rw [hf] at C
      obtain ⟨u, hu⟩ : ∃ u, u = L.getD i 0 := ⟨_, rfl⟩
      rw [← hu] at hc C
      unfold m40 at C
      clear hu hf hil hall
      go_wp2_with (go_at_call 260; ((with_reducible refine (C _).mono ?_); rintro e w' ⟨rfl, rfl⟩))
      go_ret
      exact ⟨ret_i hE2.out.symm, rfl⟩
  · have hE2 : Hid (errC L = 0) := by
        show errC L = 0
        rw [hE.out, if_pos (hF.out.2 (fun j hj => hall.out j (by have := hn.out; omega)))]
    clear hall
    go_wp2_with fail
    go_ret
    exact ⟨ret_i hE2.out.symm, rfl⟩

theorem checkAt_run (m : Nat) (hm' : m < 9218868437227405312) (ao : Option Addr) (cap n : Nat) (L : List Nat) (x : Nat) (w : World) (hn : n = L.length) (hm : n ≤ 4611686018427387904) (hw : Words L) (ha : At w ao L) (hx : x < 18446744073709551616) :
 Calls Tryz.prog 240 #[.slice ao n cap, .float .f64 x, .float .f64 m] w fun e w' => e = .returned (.int .i64 (errX m L x)) ∧ w = w' := by
 have K := pcheck_run ao cap n L w hn hm hw ha
 have C := fun w => pwithin_run m x hm' hx w
 clear ha hw hn hm hx
 by_cases h0 : errC L = 0
 · have e : errX m L x = if inM m x = true then 0 else 3 := if_pos h0
   rw [h0] at K
   rw [e]
   clear e h0
   generalize inM m x = q at *
   cases q
   · go_enter Tryz.func240, Tryz.ntmps240
     go_wp2_with (first | (go_at_call 258; ((with_reducible refine K.mono ?_); rintro e w' ⟨rfl, rfl⟩)) | (go_at_call 260; ((with_reducible refine (C _).mono ?_); rintro e w' ⟨rfl, rfl⟩)))
     go_ret
     exact ⟨rfl, rfl⟩
   · go_enter Tryz.func240, Tryz.ntmps240
     go_wp2_with (first | (go_at_call 258; ((with_reducible refine K.mono ?_); rintro e w' ⟨rfl, rfl⟩)) | (go_at_call 260; ((with_reducible refine (C _).mono ?_); rintro e w' ⟨rfl, rfl⟩)))
     go_ret
     exact ⟨rfl, rfl⟩
 · have e : errX m L x = errC L := if_neg h0
   have t0 : (errC L == 0) = false := by simpa using h0
   have t1 : (errC L != 0) = true := by simpa using h0
   rw [e]
   clear e C
   generalize errC L = k at *
   go_enter Tryz.func240, Tryz.ntmps240
   go_wp2_with (first | (go_at_call 258; ((with_reducible refine K.mono ?_); rintro e w' ⟨rfl, rfl⟩)))
   go_ret
   exact ⟨rfl, rfl⟩
end Go.Proofs.YtacinenddnfcbaaGreat

namespace Go.Proofs.YtacinenddnfcbaaGreat
open Go.ChangeShapes Go.WideShapes Go.ChangeAt Go.RowKit Ieee.Own

theorem inM_iff {m x : Nat} (hm : m < 9218868437227405312) (hx : x < 18446744073709551616) (f : fitB x = true) : inM m x = true ↔ -V m ≤ V x ∧ V x ≤ V m := by
 have fx := fit_fin hx f
 have fm : FinW m := ⟨by omega, by omega⟩
 have a := V_abs' x fx
 have b : V m = val 52 m := by
  unfold V
  rw [if_pos (by omega)]
 unfold inM
 rw [decide_eq_true_eq, b]
 have l := val_lt_iff 52 m (x % 9223372036854775808)
 constructor
 · intro h
   have : ¬ val 52 m < val 52 (x % 9223372036854775808) := fun c => by have := l.1 c; omega
   omega
 · intro h
   refine ⟨f, Nat.not_lt.1 fun c => ?_⟩
   have := l.2 c
   omega
theorem rpcheck_run (ao : Option Addr) (cap n : Nat) (L : List Nat) (w : World) (hn : n = L.length) (hm : n ≤ 4611686018427387904) (hw : Words L) (ha : At w ao L) :
 Calls Tryz.prog 100 #[.slice ao n cap] w fun e w' => e = .returned (.int .i64 (errC L)) ∧ w = w' := by
 by_cases hbig : 16 < n
 · have hE : errC L = 2 := by unfold errC; rw [if_pos (by omega)]
   rw [hE]
   clear hE ha hw hn
   go_enter Tryz.func100, Tryz.ntmps100
   go_wp2_with fail
   go_ret
   exact ⟨rfl, rfl⟩
 have hE : errC L = if L.all (inM m40) = true then 0 else 3 := by unfold errC; rw [if_neg (by omega)]
 have hF := all_at (f := inM m40) (L := L)
 replace hn := Lib.hid hn
 replace hw := Lib.hid hw
 replace ha := Lib.hid ha
 replace hE := Lib.hid hE
 replace hF := Lib.hid hF
 have hV : Hid (V 4787326403894837248 = V m40 ∧ V 14010698440749613056 = -V m40) := by show _ ∧ _; decide +kernel
 go_enter Tryz.func100, Tryz.ntmps100
 go_wp2_with fail
 go_loop [3] (fun iv => ∃ i : Nat, i ≤ n ∧ iv = .int .i64 i ∧ ∀ j, j < i → inM m40 (L.getD j 0) = true) (fun iv => n - (intOf iv).toNat)
 case atStart => exact ⟨0, Nat.zero_le _, rfl, fun j hj => by omega⟩
 case round =>
  obtain ⟨i, hi, rfl, hall⟩ := hrel
  replace hall := Lib.hid hall
  by_cases hlt : i < n
  · have hil : i < L.length := by have := hn.out; omega
    obtain ⟨b, o, rfl, hc⟩ := ha.out i hil
    have hx := hw.out.at hil
    have C := fun w => rfit_any _ hx w
    by_cases hf : inM m40 (L.getD i 0) = true
    · have hall' : Hid (∀ j, j < i + 1 → inM m40 (L.getD j 0) = true) := by
       intro j hj
       by_cases e : j = i
       · rw [e]; exact hf
       · exact hall.out j (by omega)
      have f := (inM_bd hx hf).2.1
      have hi2 := (inM_iff (m := m40) (by decide) hx f).1 hf
      have fx := fit_fin hx f
      have g1 := gt_words fx (show FinW 4787326403894837248 from ⟨by omega, by omega⟩)
      have g2 := lt_words fx (show FinW 14010698440749613056 from ⟨by omega, by omega⟩)
      rw [hV.out.1, decide_eq_false (by omega)] at g1
      rw [hV.out.2, decide_eq_false (by omega)] at g2
      rw [f] at C
      obtain ⟨u, hu⟩ : ∃ u, u = L.getD i 0 := ⟨_, rfl⟩
      rw [← hu] at hc C g1 g2
      clear hu hf hil hall f hi2 fx hx hV
      go_wp2_with (go_at_call 39; ((with_reducible refine (C _).mono ?_); rintro e w' ⟨rfl, rfl⟩))
      go_round
      case rel => exact ⟨i + 1, hlt, by go_num, hall'.out⟩
      case measure => simp [intOf]; omega
    · have hE2 : Hid (errC L = 3) := by
       show errC L = 3
       rw [hE.out, if_neg (fun h => hf (hF.out.1 h i hil))]
      by_cases f : fitB (L.getD i 0) = true
      · have hi2 : ¬ (-V m40 ≤ V (L.getD i 0) ∧ V (L.getD i 0) ≤ V m40) := fun h => hf ((inM_iff (m := m40) (by decide) hx f).2 h)
        have fx := fit_fin hx f
        have g1 := gt_words fx (show FinW 4787326403894837248 from ⟨by omega, by omega⟩)
        have g2 := lt_words fx (show FinW 14010698440749613056 from ⟨by omega, by omega⟩)
        rw [hV.out.1] at g1
        rw [hV.out.2] at g2
        rw [f] at C
        by_cases d : V m40 < V (L.getD i 0)
        · rw [decide_eq_true d] at g1
          obtain ⟨u, hu⟩ : ∃ u, u = L.getD i 0 := ⟨_, rfl⟩
          rw [← hu] at hc C g1
          clear hu hf hil hall f hi2 fx hx hV d g2
          go_wp2_with (go_at_call 39; ((with_reducible refine (C _).mono ?_); rintro e w' ⟨rfl, rfl⟩))
          go_ret
          exact ⟨ret_i hE2.out.symm, rfl⟩
        · rw [decide_eq_false d] at g1
          rw [decide_eq_true (by omega)] at g2
          obtain ⟨u, hu⟩ : ∃ u, u = L.getD i 0 := ⟨_, rfl⟩
          rw [← hu] at hc C g1 g2
          clear hu hf hil hall f hi2 fx hx hV d
          go_wp2_with (go_at_call 39; ((with_reducible refine (C _).mono ?_); rintro e w' ⟨rfl, rfl⟩))
          go_ret
          exact ⟨ret_i hE2.out.symm, rfl⟩
      · rw [Bool.not_eq_true] at f
        rw [f] at C
        obtain ⟨u, hu⟩ : ∃ u, u = L.getD i 0 := ⟨_, rfl⟩
        rw [← hu] at hc C
        clear hu hf hil hall hx hV f
        go_wp2_with (go_at_call 39; ((with_reducible refine (C _).mono ?_); rintro e w' ⟨rfl, rfl⟩))
        go_ret
        exact ⟨ret_i hE2.out.symm, rfl⟩
  · have hE2 : Hid (errC L = 0) := by
        show errC L = 0
        rw [hE.out, if_pos (hF.out.2 (fun j hj => hall.out j (by have := hn.out; omega)))]
    clear hall
    go_wp2_with fail
    go_ret
    exact ⟨ret_i hE2.out.symm, rfl⟩

end Go.Proofs.YtacinenddnfcbaaGreat

namespace Go.Proofs.YtacinenddnfcbaaGreat
open Go.ChangeShapes Go.WideShapes Go.ChangeAt Go.RowKit Ieee.Own

end Go.Proofs.YtacinenddnfcbaaGreat

namespace Go.Proofs.YtacinenddnfcbaaGreat
open Go.ChangeShapes Go.WideShapes Go.ChangeAt Go.RowKit Ieee.Own

end Go.Proofs.YtacinenddnfcbaaGreat

namespace Go.Proofs.YtacinenddnfcbaaGreat
open Go.ChangeShapes Go.WideShapes Go.ChangeAt Go.RowKit Ieee.Own

def fsC (x : Nat) : List Value := [.float .f32 x]
def FsAt (w : World) (v : Value) (L : List Nat) : Prop := ∃ ao cap, v = .slice ao L.length cap ∧ L.length ≤ cap ∧ cap ≤ maxLen ∧ (ao = none → cap = 0) ∧ RAt w ao 1 (L.map fsC)
theorem FsAt.on {w w' : World} {v : Value} {L : List Nat} (h : FsAt w v L) (hb : Below w.heap.size w w') : FsAt w' v L := by
 obtain ⟨ao, cap, h1, h2, h3, h4, h5⟩ := h
 exact ⟨ao, cap, h1, h2, h3, h4, h5.on hb⟩
theorem fs_cell {w : World} {ao : Option Addr} {L : List Nat} (h : RAt w ao 1 (L.map fsC)) {j : Nat} (hj : j < L.length) : ∃ b o, ao = some ⟨b, o, none⟩ ∧ b < w.heap.size ∧ w.cell? ⟨b, o + j, none⟩ = some (.float .f32 (L.getD j 0)) := by
 obtain ⟨b, o, e, hb, hc⟩ := h j (fsC (L.getD j 0)) (by simp [List.getD, hj])
 have := hc 0 _ rfl
 rw [Nat.mul_one, Nat.add_zero] at this
 exact ⟨b, o, e, hb, this⟩
theorem rows_fs (L : List Nat) : RowsOk 1 (L.map fsC) := by
 refine ⟨fun r hr => ?_, fun r hr u hu => ?_⟩
 · obtain ⟨f, -, rfl⟩ := List.mem_map.1 hr; rfl
 · obtain ⟨f, -, rfl⟩ := List.mem_map.1 hr
   simp only [fsC, List.mem_cons, List.not_mem_nil, or_false] at hu
   rw [hu]; rfl
def cfT (T : List (List (List Nat))) (i k : Nat) : List Nat := (T.getD i []).getD k []
def TbAt (w : World) (ao : Option Addr) (T : List (List (List Nat))) : Prop :=
 ∀ i, i < T.length → ∃ b o v0 v1 v2, ao = some ⟨b, o, none⟩ ∧ b < w.heap.size ∧ w.cell? ⟨b, o + i * 3, none⟩ = some v0 ∧ w.cell? ⟨b, o + i * 3 + 1, none⟩ = some v1 ∧ w.cell? ⟨b, o + i * 3 + 2, none⟩ = some v2 ∧
   FsAt w v0 (cfT T i 0) ∧ FsAt w v1 (cfT T i 1) ∧ FsAt w v2 (cfT T i 2)
theorem TbAt.on {w w' : World} {ao : Option Addr} {T : List (List (List Nat))} (h : TbAt w ao T) (hb : Below w.heap.size w w') : TbAt w' ao T := by
 intro i hi
 obtain ⟨b, o, v0, v1, v2, e, hl, c0, c1, c2, f0, f1, f2⟩ := h i hi
 exact ⟨b, o, v0, v1, v2, e, Nat.lt_of_lt_of_le hl hb.size, (hb.cell (p := ⟨b, _, none⟩) hl).trans c0, (hb.cell (p := ⟨b, _, none⟩) hl).trans c1, (hb.cell (p := ⟨b, _, none⟩) hl).trans c2, f0.on hb, f1.on hb, f2.on hb⟩
theorem TbAt.at3 {w : World} {ao : Option Addr} {T : List (List (List Nat))} (h : TbAt w ao T) {i k : Nat} (hi : i < T.length) (hk : k < 3) :
 ∃ b o v, ao = some ⟨b, o, none⟩ ∧ b < w.heap.size ∧ w.cell? ⟨b, o + i * 3 + k, none⟩ = some v ∧ FsAt w v (cfT T i k) := by
 obtain ⟨b, o, v0, v1, v2, e, hb, c0, c1, c2, f0, f1, f2⟩ := h i hi
 have : k = 0 ∨ k = 1 ∨ k = 2 := by omega
 rcases this with rfl | rfl | rfl
 · exact ⟨b, o, v0, e, hb, c0, f0⟩
 · exact ⟨b, o, v1, e, hb, c1, f1⟩
 · exact ⟨b, o, v2, e, hb, c2, f2⟩
theorem TbAt.alloc {w : World} {ao : Option Addr} {T : List (List (List Nat))} (h : TbAt w ao T) (o : Obj) : TbAt (w.alloc o) ao T := h.on ((Below.refl _ _).alloc (Nat.le_refl _) o)
theorem FsAt.alloc {w : World} {v : Value} {L : List Nat} (h : FsAt w v L) (o : Obj) : FsAt (w.alloc o) v L := h.on ((Below.refl _ _).alloc (Nat.le_refl _) o)
structure Tb where
 fr : Nat
 st : Nat
 rows : List (List (List Nat))
def tbV (t : Tb) (ao : Option Addr) (cap : Nat) : Value := .agg #[.float .f64 t.fr, .float .f64 t.st, .slice ao t.rows.length cap]
def Ws32 (L : List Nat) : Prop := ∀ x ∈ L, x < 4294967296
structure TbW (t : Tb) : Prop where
 fr : t.fr < 18446744073709551616
 st : t.st < 18446744073709551616
 w : ∀ i k, Ws32 (cfT t.rows i k)
theorem ws_at {L : List Nat} (h : Ws32 L) (j : Nat) : L.getD j 0 < 4294967296 := by
 by_cases hj : j < L.length
 · exact h _ (by simp [List.getD, hj])
 · have : L.getD j 0 = 0 := by simp [List.getD, hj]
   rw [this]; omega
theorem ws_wide {L : List Nat} (h : Ws32 L) : Words (L.map wideW) := by
 intro x hx
 obtain ⟨y, hy, rfl⟩ := List.mem_map.1 hx
 exact wideW_lt y (h y hy)
theorem madeB (w : World) (z : Value) (n : Nat) (t : TypeId) : BV (w.alloc (.cells (madeCells #[z] n) t)) w.heap.size (List.replicate n z) := by
 have e : (madeCells #[z] n) = (List.replicate n z).toArray := by
  apply Array.toList_inj.1
  rw [toList_madeCells_one]
 rw [e]
 exact BV.box w t _
def lay (L : List Nat) (i n : Nat) : List Value := (L.take i).map (Value.float .f64) ++ List.replicate (n - i) (.float .f64 0)
theorem lay_zero (L : List Nat) (n : Nat) : lay L 0 n = List.replicate n (.float .f64 0) := by unfold lay; simp
theorem lay_at {L : List Nat} {i n : Nat} (hn : n = L.length) (hi : i < n) : (lay L i n)[i]? = some (.float .f64 0) := by
 unfold lay
 rw [List.getElem?_append_right (by simp; omega)]
 rw [List.getElem?_replicate, if_pos (by simp; omega)]
theorem lay_set {L : List Nat} {i n : Nat} (hn : n = L.length) (hi : i < n) : (lay L i n).set i (.float .f64 (L.getD i 0)) = lay L (i + 1) n := by
 have hl : ((L.take i).map (Value.float .f64)).length = i := by simp; omega
 unfold lay
 rw [List.set_append_right _ _ (by rw [hl]; exact Nat.le_refl _), hl, Nat.sub_self, show n - i = (n - (i + 1)) + 1 by omega, List.replicate_succ, List.set_cons_zero]
 have e : L.take (i + 1) = L.take i ++ [L.getD i 0] := by
  rw [List.take_add_one]
  congr 1
  have : i < L.length := by omega
  simp [List.getD, this]
 rw [e, List.map_append, List.append_assoc]
 rfl
theorem lay_full {w : World} {g n : Nat} {L : List Nat} (hn : n = L.length) (h : BV w g (lay L n n)) : At w (some ⟨g, 0, none⟩) L := by
 intro j hj
 refine ⟨g, 0, rfl, ?_⟩
 rw [Nat.zero_add]
 refine h.at_ j _ ?_
 unfold lay
 rw [Nat.sub_self, List.replicate_zero, List.append_nil, hn, List.take_length]
 simp [List.getD, hj]
theorem make64 (n : Nat) (hn : n ≤ 16) (w : World) : (Instr.makeSlice 125 (.int .i64 (n : Int)) (.int .i64 (n : Int))).run Tryz.prog w = .ok (.slice (some ⟨w.heap.size, 0, none⟩) n n) (w.alloc (.cells (madeCells #[.float .f64 0] n) 22)) := by
 obtain ⟨i0, hi0, hz0, hz1, hz2⟩ := info_parts infoF
 have := run_make (P := Tryz.prog) w 125 22 i0 _ Tryz.underlying125 hi0 hz0 .i64 .i64 n n (by omega) (by omega) (by rw [hz2]; omega) (by omega)
 rw [hz1, Nat.mul_one] at this
 exact this
end Go.Proofs.YtacinenddnfcbaaGreat

namespace Go.Proofs.YtacinenddnfcbaaGreat
open Go.ChangeShapes Go.WideShapes Go.ChangeAt Go.RowKit Ieee.Own

def m24 : Nat := 4715268809856909312
def s10 : Nat := 4562146422526312448

theorem ctime_run (x : Nat) (hx : x < 18446744073709551616) (w : World) :
 Calls Tryz.prog 155 #[.float .f64 x] w fun e w' => e = .returned (.bool (inM m24 x)) ∧ w = w' := by
 have CF := fun w => fit_any x hx w
 have CA := fun w => abs_any x hx w
 have g := o_leq (x % 9223372036854775808) 4715268809856909312 (by omega) (by omega)
 rw [key_low (by omega), key_low (by omega)] at g
 by_cases h1 : fitB x = true
 · have fn := fit_fin hx h1
   have m' := fn.2
   rw [h1] at CF
   have n1 : nn (x % 9223372036854775808) := by unfold nn; omega
   have n2 : nn 4715268809856909312 := by unfold nn; omega
   have e : inM m24 x = decide (x % 9223372036854775808 ≤ 4715268809856909312) := by unfold inM m24; rw [h1]; simp
   by_cases h2 : x % 9223372036854775808 ≤ 4715268809856909312
   · rw [decide_eq_true ⟨n1, n2, by omega⟩] at g
     rw [e, decide_eq_true h2]
     clear hx h1 fn m' h2 e n1 n2
     generalize x % 9223372036854775808 = y at *
     go_enter Tryz.func155, Tryz.ntmps155
     go_wp2_with (first | (go_at_call 72; ((with_reducible refine (CF _).mono ?_); rintro e w' ⟨rfl, rfl⟩)) | (go_at_call 37; ((with_reducible refine (CA _).mono ?_); rintro e w' ⟨rfl, rfl⟩)))
     go_ret
     exact ⟨rfl, rfl⟩
   · rw [decide_eq_false (fun h => h2 (by have := h.2.2; omega))] at g
     rw [e, decide_eq_false h2]
     clear hx h1 fn m' h2 e n1 n2
     generalize x % 9223372036854775808 = y at *
     go_enter Tryz.func155, Tryz.ntmps155
     go_wp2_with (first | (go_at_call 72; ((with_reducible refine (CF _).mono ?_); rintro e w' ⟨rfl, rfl⟩)) | (go_at_call 37; ((with_reducible refine (CA _).mono ?_); rintro e w' ⟨rfl, rfl⟩)))
     go_ret
     exact ⟨rfl, rfl⟩
 · have e : inM m24 x = false := decide_eq_false (fun h => h1 h.1)
   rw [Bool.not_eq_true] at h1
   rw [h1] at CF
   rw [e]
   clear hx h1 e g
   go_enter Tryz.func155, Tryz.ntmps155
   go_wp2_with (first | (go_at_call 72; ((with_reducible refine (CF _).mono ?_); rintro e w' ⟨rfl, rfl⟩)) | (go_at_call 37; ((with_reducible refine (CA _).mono ?_); rintro e w' ⟨rfl, rfl⟩)))
   go_ret
   exact ⟨rfl, rfl⟩

def bgW (x : Nat) : Nat := if fitB x = true then x else 0
theorem cbrought_run (x : Nat) (hx : x < 18446744073709551616) (w : World) : Calls Tryz.prog 156 #[.float .f64 x] w fun e w' => e = .returned (.float .f64 (bgW x)) ∧ w = w' := by
 have CF := fun w => fit_any x hx w
 by_cases h1 : fitB x = true
 · have e : bgW x = x := if_pos h1
   rw [e]
   rw [h1] at CF
   clear hx h1 e
   go_enter Tryz.func156, Tryz.ntmps156
   go_wp2_with (first | (go_at_call 72; ((with_reducible refine (CF _).mono ?_); rintro e w' ⟨rfl, rfl⟩)))
   go_ret
   exact ⟨rfl, rfl⟩
 · have e : bgW x = 0 := if_neg h1
   rw [e]
   rw [Bool.not_eq_true] at h1
   rw [h1] at CF
   clear hx h1 e
   go_enter Tryz.func156, Tryz.ntmps156
   go_wp2_with (first | (go_at_call 72; ((with_reducible refine (CF _).mono ?_); rintro e w' ⟨rfl, rfl⟩)))
   go_ret
   exact ⟨rfl, rfl⟩
theorem csure_run (x : Nat) (k : Int) (w : World) : Calls Tryz.prog 185 #[.float .f64 x, .int .i64 k] w fun e w' => e = .returned (.float .f64 x) ∧ w = w' := by
 go_enter Tryz.func185, Tryz.ntmps185
 go_wp2_with fail
 go_ret
 exact ⟨rfl, rfl⟩

theorem cwide_run {v : Value} {L : List Nat} (w : World) (hl : L.length ≤ 16) (hw : Ws32 L) (h : FsAt w v L) :
 Calls Tryz.prog 157 #[v] w fun e w' => ∃ g, e = .returned (.slice (some ⟨g, 0, none⟩) L.length L.length) ∧ w.heap.size ≤ g ∧ At w' (some ⟨g, 0, none⟩) (L.map wideW) ∧ Below w.heap.size w w' := by
 obtain ⟨ao, cap, rfl, hc, hm, hn0, ha⟩ := h
 obtain ⟨n, hn⟩ : ∃ n, n = L.length := ⟨_, rfl⟩
 rw [← hn] at hl hc ⊢
 have mk := make64 n hl
 have hst := @fstore
 obtain ⟨M, hM⟩ : ∃ M, M = L.map wideW := ⟨_, rfl⟩
 have hnM : Hid (n = M.length) := Lib.hid (by rw [hM, List.length_map]; exact hn)
 rw [← hM]
 have B0 : Hid (BV (w.alloc (.cells (madeCells #[.float .f64 0] n) 22)) w.heap.size (lay M 0 n)) := Lib.hid (by rw [lay_zero]; exact madeB _ _ _ _)
 have b0 : Hid (Below w.heap.size w (w.alloc (.cells (madeCells #[.float .f64 0] n) 22))) := Lib.hid ((Below.refl _ w).alloc (Nat.le_refl _) _)
 replace hn := Lib.hid hn
 replace hM := Lib.hid hM
 replace hw := Lib.hid hw
 replace ha := Lib.hid ha
 clear hc hm hn0
 go_enter Tryz.func157, Tryz.ntmps157
 go_wp2_with fail
 go_loopw [10] (fun iv wr => ∃ i : Nat, i ≤ n ∧ iv = .int .i64 i ∧ BV wr w.heap.size (lay M i n) ∧ Below w.heap.size w wr) (fun iv _ => n - (intOf iv).toNat)
 case atStart => exact ⟨0, Nat.zero_le _, rfl, B0.out, b0.out⟩
 case round =>
  obtain ⟨i, hi, rfl, B, hb⟩ := hrel
  by_cases hlt : i < n
  · have hil : i < L.length := by have := hn.out; omega
    obtain ⟨b, o, rfl, hbl, c0⟩ := fs_cell (ha.out.below (fun b o e _ => ha.out.lt b o e (by simp; omega)) hb) hil
    have C := fun w => wide_all (L.getD i 0) (ws_at hw.out i) w
    have eM : Hid (M.getD i 0 = wideW (L.getD i 0)) := Lib.hid (by rw [hM.out]; simp [List.getD, hil])
    generalize wideW (L.getD i 0) = u at *
    generalize L.getD i 0 = x at *
    have hi2 : (i : Int) < (n : Int) := by omega
    replace B := Lib.hid B
    replace hb := Lib.hid hb
    clear hbl hil
    go_wp2_with fail
    refine (C _).mono ?_
    rintro _ w2 ⟨rfl, hd⟩
    have B2 := B.out.on (hd.below _)
    have b2 := Lib.hid (hb.out.trans (hd.below _))
    have c1 := B2.at_ i _ (lay_at hnM.out hlt)
    have f1 := B2.fr i _ (lay_at hnM.out hlt)
    have B3 := B2.set1 (lay_at hnM.out hlt) (.float .f64 u)
    rw [← eM.out, lay_set hnM.out hlt, eM.out] at B3
    replace B3 := Lib.hid B3
    have b3 := Lib.hid (b2.out.setCell (p := ⟨w.heap.size, i, none⟩) (Nat.le_refl _) (.float .f64 u))
    clear B B2 hb c0 C hd b2
    go_wp2_with fail
    go_roundw
    case rel => exact ⟨i + 1, hlt, by go_num, B3.out, b3.out⟩
    case measure => simp [intOf]; omega
  · obtain rfl : i = n := by omega
    replace B := Lib.hid B
    replace hb := Lib.hid hb
    go_wp2_with fail
    go_ret
    exact ⟨_, rfl, Nat.le_refl _, lay_full hnM.out B.out, hb.out⟩
end Go.Proofs.YtacinenddnfcbaaGreat
