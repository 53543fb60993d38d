/- Proved here: for every list of numbers and every span (and all that are none) the law PolySpans returns true: spans of values, end by end, and the coefficients stay. No conditions. -/
import Derived.Test.YtjhcalgamcdgiaaRows
import Derived.Test.YtjhcalgamcdgiaaJq4
import Derived.Test.YtjhcalgamcdgiaaJb2
namespace Go.Proofs.Ytjhcalgamcdgiaa.polySpans
open Go.ChangeShapes Go.WideShapes Go.ChangeAt Go.RowKit Ieee.Own

set_option maxHeartbeats 2000000 in
theorem walk (w : World) (ao0 : Option Addr) (cap0 : Nat) (L0 : List Nat) (hc0 : L0.length ≤ cap0) (hw0 : Words L0) (ha0 : At w ao0 L0) (hr0 : cap0 * 8 ≤ 140737488351232) (hn0 : ao0 = none → cap0 = 0) (a1 b1 : Nat) (ha1 : a1 < 18446744073709551616) (hb1 : b1 < 18446744073709551616) :
    Calls Try.prog 3 #[.slice ao0 L0.length cap0, spanV a1 b1] w fun e w' => e = .returned (.bool true) ∧ Below w.heap.size w w' := by
  obtain ⟨n, hn⟩ : ∃ n, n = L0.length := ⟨_, rfl⟩
  rw [← hn] at hc0 ⊢
  have hrn : n * 8 ≤ 140737488351232 := by omega
  have hm : n ≤ 4611686018427387904 := by omega
  have AW := Lib.hid awake6
  obtain ⟨p, k, Hp, K1⟩ := hsp_own hn hm hw0 ha1 hb1
  have K2 := hsp_ref Hp hn hm hw0 ha1 hb1
  obtain ⟨q, l, Hq, K3⟩ := csp_own hn hm hw0 ha1 hb1
  have K4 := csp_ref Hq hn hm hw0 ha1 hb1
  have RO := Lib.hid (fun w h => roomy_run ao0 cap0 n L0 w hn hrn hn0 h)
  have KE := Lib.hid (fun g cap' w hcap hcm h h' => rkeptlist_run g ao0 cap0 cap' n L0 w hn hm hcap hcm h h')
  have t1 : (k != k) = false := bne_self_eq_false k
  have t2 : (l == l) = true := beq_self_eq_true l
  have K5 := Lib.hid (fun w => samespan_run p.1 p.2 w)
  have K6 := Lib.hid (fun w => samespan_run q.1 q.2 w)
  have hst := @fstore
  have C0 : Cls w [(w.heap.size, a1, b1)] (w.alloc (boxO a1 b1)) := (Cls.nil w).new a1 b1
  have A0 := (Lin.start ha0).alloc (boxO a1 b1)
  unfold boxO at C0 A0
  obtain ⟨p1, p2⟩ := p
  obtain ⟨q1, q2⟩ := q
  unfold spanE spanV at K1 K2 K3 K4
  unfold spanV at K5 K6
  unfold spanV
  dsimp only at K1 K2 K3 K4 K5 K6
  replace K1 := Lib.hid K1
  replace K2 := Lib.hid K2
  replace K3 := Lib.hid K3
  replace K4 := Lib.hid K4
  replace C0 := Lib.hid C0
  replace A0 := Lib.hid A0
  replace hn := Lib.hid hn
  obtain ⟨B, hB⟩ : ∃ B, B = w.heap.size := ⟨_, rfl⟩
  rw [← hB] at A0
  replace hB := Lib.hid hB
  clear Hp Hq ha1 hb1 hw0 ha0 hr0 hc0
  go_enter Try.func3, Try.ntmps3
  go_wp2_with fail
  have C := C0.out
  have A := A0.out
  clear C0 A0
  generalize w.alloc _ = wr at *
  refine (AW.out wr).mono ?_
  rintro _ v0 ⟨rfl, hb⟩
  replace C := Lib.hid (C.on hb)
  replace A := A.on hb
  clear hb AW
  go_wp2_with fail
  refine (RO.out v0 A.at_).mono ?_
  rintro _ v1 ⟨gr, capr, rfl, hcap, hcm, hA, -, -, hb⟩
  have C2 := C.out.on hb
  replace A := Lib.hid (A.on hb)
  have R := Lib.hid (Lin.start hA)
  obtain ⟨BR, hBR⟩ : ∃ B, B = v1.heap.size := ⟨_, rfl⟩
  rw [← hBR] at R
  replace hcap := Lib.hid hcap
  replace hcm := Lib.hid hcm
  clear hA RO hBR
  have p0a := (C2.at_ 0 rfl).lo
  have p0b := (C2.at_ 0 rfl).hi
  replace C := Lib.hid C2
  clear C2 hb
  go_wp2_with fail
  clear p0a p0b
  refine (K1.out (some ⟨gr, 0, none⟩) capr v1 R.out.at_.left).mono ?_
  rintro _ v2 ⟨rfl, hb⟩
  have C2 := (C.out.on hb).new p1 p2
  simp only [List.nil_append, List.cons_append] at C2
  have A2 := (A.out.on hb).alloc (boxO p1 p2)
  have R2 := (R.out.on hb).alloc (boxO p1 p2)
  have hgg1 : Hid (BR ≤ v2.heap.size) := (R.out.on hb).size
  unfold boxO at C2 A2 R2
  have p0a := (C2.at_ 0 rfl).lo
  have p0b := (C2.at_ 0 rfl).hi
  replace C := Lib.hid C2
  replace A := Lib.hid A2
  replace R := Lib.hid R2
  clear C2 A2 R2 hb K1
  go_wp2_with fail
  clear p0a p0b
  generalize v2.alloc _ = u2 at *
  generalize v2.heap.size = g1 at *
  refine (K2.out ao0 cap0 u2 A.out.at_).mono ?_
  rintro _ v3 ⟨rfl, hb⟩
  have C2 := (C.out.on hb).new p1 p2
  simp only [List.nil_append, List.cons_append] at C2
  have A2 := (A.out.on hb).alloc (boxO p1 p2)
  have R2 := (R.out.on hb).alloc (boxO p1 p2)
  have hgg2 : Hid (BR ≤ v3.heap.size) := (R.out.on hb).size
  unfold boxO at C2 A2 R2
  have p1a := (C2.at_ 1 rfl).lo
  have p1b := (C2.at_ 1 rfl).hi
  have p2a := (C2.at_ 2 rfl).lo
  have p2b := (C2.at_ 2 rfl).hi
  replace C := Lib.hid C2
  replace A := Lib.hid A2
  replace R := Lib.hid R2
  clear C2 A2 R2 hb K2
  go_wp2_with fail
  clear p1a p1b p2a p2b
  generalize v3.alloc _ = u3 at *
  generalize v3.heap.size = g2 at *
  refine (K5.out u3).mono ?_
  rintro _ v4 ⟨rfl, hb⟩
  have C2 := C.out.on hb
  have p0a := (C2.at_ 0 rfl).lo
  have p0b := (C2.at_ 0 rfl).hi
  replace C := Lib.hid C2
  replace A := Lib.hid (A.out.on hb)
  replace R := Lib.hid (R.out.on hb)
  clear C2 hb K5
  go_wp2_with fail
  clear p0a p0b
  refine (K3.out (some ⟨gr, 0, none⟩) capr v4 R.out.at_.left).mono ?_
  rintro _ v5 ⟨rfl, hb⟩
  have C1 := C.out.on hb
  have a0 := (C1.at_ 1 rfl).lo
  have a1' := (C1.at_ 1 rfl).hi
  have a2 := (C1.at_ 1 rfl).f0
  have a3 := (C1.at_ 1 rfl).f1
  have C2 := C1.put 1 rfl q1 q2
  simp only [List.set_cons_zero, List.set_cons_succ] at C2
  have A2 := (A.out.on hb).put (g := g1) (by have := (C1.blk 1 _ _ _ rfl).1; have := hB.out; omega) q1 q2
  have R2 := (R.out.on hb).put (g := g1) hgg1.out q1 q2
  unfold put2 at C2 A2 R2
  have p0a := (C2.at_ 0 rfl).lo
  have p0b := (C2.at_ 0 rfl).hi
  replace C := Lib.hid C2
  replace A := Lib.hid A2
  replace R := Lib.hid R2
  clear C1 C2 A2 R2 hb K3
  go_wp2_with fail
  clear a0 a1' a2 a3
  clear p0a p0b
  generalize World.setCell _ _ _ = u5 at *
  refine (K4.out ao0 cap0 u5 A.out.at_).mono ?_
  rintro _ v6 ⟨rfl, hb⟩
  have C1 := C.out.on hb
  have a0 := (C1.at_ 2 rfl).lo
  have a1' := (C1.at_ 2 rfl).hi
  have a2 := (C1.at_ 2 rfl).f0
  have a3 := (C1.at_ 2 rfl).f1
  have C2 := C1.put 2 rfl q1 q2
  simp only [List.set_cons_zero, List.set_cons_succ] at C2
  have A2 := (A.out.on hb).put (g := g2) (by have := (C1.blk 2 _ _ _ rfl).1; have := hB.out; omega) q1 q2
  have R2 := (R.out.on hb).put (g := g2) hgg2.out q1 q2
  unfold put2 at C2 A2 R2
  have p1a := (C2.at_ 1 rfl).lo
  have p1b := (C2.at_ 1 rfl).hi
  have p2a := (C2.at_ 2 rfl).lo
  have p2b := (C2.at_ 2 rfl).hi
  replace C := Lib.hid C2
  replace A := Lib.hid A2
  replace R := Lib.hid R2
  clear C1 C2 A2 R2 hb K4
  go_wp2_with fail
  clear a0 a1' a2 a3
  clear p1a p1b p2a p2b
  generalize World.setCell _ _ _ = u6 at *
  refine (K6.out u6).mono ?_
  rintro _ v7 ⟨rfl, hb⟩
  have C2 := C.out.on hb
  replace A := A.out.on hb
  replace R := R.out.on hb
  replace C := Lib.hid C2
  clear C2 hb K6
  go_wp2_with fail
  refine (KE.out gr capr v7 hcap.out hcm.out R.at_ A.at_).mono ?_
  rintro _ v8 ⟨rfl, hd⟩
  have B9 := Lib.hid (C.out.old.trans (hd.below _))
  clear hd C A R KE
  go_wp2_with fail
  go_ret
  exact ⟨by first | rfl | trivial, B9.out⟩

theorem own : ownKnob Try.prog.godebug = none := by kernel_rfl
theorem laidOut : laidOutB Try.prog = true := by kernel_rfl
theorem cellsF : Try.prog.cellsOf 23 = 1 := by kernel_rfl
theorem bytesF : Try.prog.bytesOf 23 = 8 := by kernel_rfl
theorem wf64 {b : Nat} (h : (Lit.float .f64 b).wf = true) : b < 18446744073709551616 := by
  simp only [Lit.wf, decide_eq_true_eq] at h; exact h

set_option maxRecDepth 100000 in
theorem lifted (os : Os) (started : os.Started) (H : Type) (enc : TypeId × Value → H) :
    ReturnsInHanded {} Try.checked os 3 .any (Rows.polySpansSpec.pre6 enc Try.prog Try.f3 Rows.polySpansRow.domain false) (Rows.polySpansSpec.post enc Try.prog Try.f3 false true false false) := by
  refine returnsInHanded_of_change_sized (C := Try.checked) own started (by kernel_rfl) Try.func3
    (ChangeSpec.witness6 (enc := enc) (C := Try.checked) false ⟨#[], #[.slice none 0 0, .agg #[.float .f64 0, .float .f64 0]], []⟩ 8 (by kernel_rfl) (by kernel_rfl) (by kernel_rfl) (by kernel_rfl)) ?_
  intro W base args ds gs before hval0 hW _ hsz0 _
  have hsz : (DataW.weightsEach Try.prog (Try.f3.params.toList ++ Rows.polySpansSpec.plain.varTypes Try.prog) (ds ++ gs)).all (· ≤ reachBytes) = true := hsz0
  clear hsz0
  have hval : ∀ (j : Nat) t v, Try.f3.params[j]? = some t → args[j]? = some v → Value.okWide Try.prog W .any base t v := hval0
  have hW' := hW
  obtain ⟨p, q, hA0, hV, rfl, _, _⟩ := hW
  have hA : DataW.TrodAll enc Try.prog W 0 (fun _ => true) true Try.f3.params.toList args.toList ds p := hA0
  rw [Try.params3] at hA hval hsz
  obtain ⟨v0, vs0, d0, ds0, p0, q0, hargs, rfl, rfl, t0, r0⟩ := trodAll_cons hA
  obtain ⟨v1, vs1, d1, ds1, p1, q1, rfl, rfl, rfl, t1, r1⟩ := trodAll_cons r0
  obtain ⟨rfl, rfl, rfl⟩ := trodAll_nil r1
  obtain rfl : args = #[v0, v1] := by cases args; simp_all
  obtain ⟨rfl, rfl⟩ := trodVars_none hV
  simp only [List.append_nil] at hW'
  have tk0 := t0
  obtain ⟨ao0, cap0, L0, rfl, hc0, hw0, ha0, hx0⟩ := open_flts Try.underlying22 Try.underlying23 cellsF (okWide_slice Try.underlying22 (hval 0 22 v0 rfl rfl)) t0
  have hr0 : cap0 * 8 ≤ 140737488351232 := by
    rcases hx0 with ⟨_, h0⟩ | ⟨_, es, sp, hd, h0⟩
    · rw [h0]; decide
    · subst hd
      have := sized_slice hsz (j := 0) (t := 22) (e := 23) rfl rfl Try.underlying22
      rw [bytesF, h0] at this
      simp only [reachBytes] at this
      omega
  have hn0 : ao0 = none → cap0 = 0 := by
    intro h
    rcases hx0 with ⟨_, h0⟩ | ⟨⟨a, h1⟩, _⟩
    · exact h0
    · rw [h] at h1; simp at h1
  have hlt0 : ∀ x ∈ p0, x.block < W.heap.size := fun x hx => by have := hW'.lt x (by simp [hx]); simpa using this
  have tk1 := t1
  obtain ⟨a1, b1, rfl, wa1, wb1⟩ := open_span (hval 1 25 v1 rfl rfl) t1
  have hlt1 : ∀ x ∈ p1, x.block < W.heap.size := fun x hx => by have := hW'.lt x (by simp [hx]); simpa using this
  clear hA0 hval0
  refine (walk W ao0 cap0 L0 hc0 hw0 ha0 hr0 hn0 a1 b1 wa1 wb1).mono fun e W' ⟨he, hb⟩ => ?_
  subst he
  refine ⟨_, rfl, _, _, _, [], _, [], hW', trodAll_cons_mk (shut_bool Try.underlying4 _) trodAll_mk0, (trodAll_cons_mk (Below.trod laidOut (by kernel_rfl) (of_decide_eq_true (by kernel_rfl)) tk0 hb hlt0) (trodAll_cons_mk (Below.trod laidOut (by kernel_rfl) (of_decide_eq_true (by kernel_rfl)) tk1 hb hlt1) trodAll_mk0)), rfl, hb.frame _, fun h => by cases h⟩

theorem over : Rows.polySpansRow.holds Try.pinned (OpenSpec.ofChange Rows.polySpansSpec) :=
  OpenClaim.holds_of_wide 3 Try.f3 rfl rfl rfl rfl rfl rfl rfl ⟨rfl, rfl, rfl, rfl, rfl⟩ rfl rfl rfl rfl rfl (by kernel_rfl) Try.func3 (by kernel_rfl)
    (of_decide_eq_true (by kernel_rfl)) (by unfold Func.isWrapper; first | (rw [if_pos (by decide +kernel)]; kernel_rfl) | (rw [if_neg (by decide +kernel)]; exact ⟨rfl, rfl⟩))
    (fun os started H enc _ => lifted os started H enc)

theorem proved : Rows.PolySpansSaid :=
  over
end Go.Proofs.Ytjhcalgamcdgiaa.polySpans
