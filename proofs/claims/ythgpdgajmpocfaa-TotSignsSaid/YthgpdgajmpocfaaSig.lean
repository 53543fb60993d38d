/- Proved here: Sign is the sign of Dot, and negated numbers have the negated exact sum (TotSigns), over the translated code; for every input. -/
import Derived.Test.YthgpdgajmpocfaaRows
import Derived.Test.YthgpdgajmpocfaaTds
import Derived.Test.YthgpdgajmpocfaaTcp
import Derived.Test.YthgpdgajmpocfaaTtw
namespace Go.Proofs.Ythgpdgajmpocfaa.totSigns
open Go.ChangeShapes Go.WideShapes Go.ChangeAt Go.RowKit Ieee.Own

theorem xneg (b : Nat) (hb : b < 18446744073709551616) (w : World) : (Op.unary .neg (.float .f64 b)).run Try.prog w = .ok (.float .f64 (negW b)) w := by
  unfold negW; rw [← xor_top64 b hb]; rfl
def negL (L : List Nat) : List Nat := L.map negW
theorem negL_len (L : List Nat) : (negL L).length = L.length := by simp [negL]
theorem negW_lt {b : Nat} (h : b < 18446744073709551616) : negW b < 18446744073709551616 := by unfold negW; split <;> omega
theorem negL_words {L : List Nat} (h : Words L) : Words (negL L) := by
  intro x hx
  obtain ⟨y, hy, rfl⟩ := List.mem_map.1 hx
  exact negW_lt (h y hy)
theorem fit_neg {b : Nat} (h : b < 18446744073709551616) : fitB (negW b) = fitB b := by
  have : negW b % 9223372036854775808 = b % 9223372036854775808 := by unfold negW; split <;> omega
  unfold fitB; rw [this]
theorem errL_neg {L : List Nat} (h : Words L) : errL (negL L) = errL L := by
  have : allFit (negL L) = allFit L := by
    unfold allFit negL
    rw [List.all_map]
    induction L with
    | nil => rfl
    | cons a L ih =>
      simp only [List.all_cons, Function.comp]
      rw [fit_neg (h a (by simp))]
      rw [← ih (fun x hx => h x (by simp [hx]))]
  unfold errL
  rw [negL_len, this]
theorem sum_neg {L : List Nat} (hw : Words L) (hf : allFit L = true) : (vs (negL L)).sum = -(vs L).sum := by
  induction L with
  | nil => rfl
  | cons a L ih =>
    have h1 : fitB a = true := List.all_eq_true.1 hf a (by simp)
    have hn := negW_V (fit_fin (hw a (by simp)) h1)
    have := ih (fun x hx => hw x (by simp [hx])) (List.all_eq_true.2 fun x hx => List.all_eq_true.1 hf x (by simp [hx]))
    show (V (negW a) :: vs (negL L)).sum = -(V a :: vs L).sum
    rw [List.sum_cons, List.sum_cons, hn, this]; omega
theorem negL_succ {L : List Nat} {k : Nat} (h : k < L.length) : negL (L.take (k + 1)) = negL (L.take k) ++ [negW (L.getD k 0)] := by
  unfold negL
  rw [List.take_add_one, List.map_append]
  simp [List.getD, h]

/-- nought less the one sum is the other -/
theorem zero_less {L : List Nat} (hw : Words L) {x y : Nat} (hx : ExactIs L x) (hy : ExactIs (negL L) y) : ∀ t w, (binOp .sub t (.float .f64 0) (.float .f64 x)).run Try.prog w = .ok (.float .f64 y) w := by
  have key : Ieee.double.sub 0 x = some y := by
    by_cases h0 : errL L = 0
    · obtain ⟨hl, hf⟩ := errL_zero h0
      have hX := hx.1 h0
      have hY := hy.1 (by rw [errL_neg hw]; exact h0)
      rw [sum_neg hw hf] at hY
      have hb := list_bound hw hf hl L.length
      rw [List.take_length] at hb
      have hS : Sized 1290 x := near_sized hX hb
      obtain ⟨r, h1, h2, h3, -⟩ := subW (k := 1290) (a := 0) (b := x) (Sized.zero 1290).1 hS.1 (Sized.zero 1290).2 hS.2 (by omega)
      rw [V_zero, Int.zero_sub] at h3
      have hN : Near (-(vs L).sum) r := by
        refine ⟨h2, by rw [h3, hX.2.1, RN_neg, RN_neg, RN_exact (RN_rep _)], fun hr0 => ?_⟩
        have hx0 : V x = 0 := by
          rw [hr0, RN_neg, RN_exact (Rep_V x)] at h3; omega
        rw [hX.2.2 hx0] at h1
        have : Ieee.double.sub 0 0 = some 0 := by decide +kernel
        rw [this] at h1
        exact (Option.some.inj h1).symm
      rw [h1, hN.uniq hY]
    · rw [hx.2 h0, hy.2 (by rw [errL_neg hw]; exact h0)]
      decide +kernel
  exact run_sub _ _ _ key

/-- the sign of the rounded sum is the sign -/
theorem sign_dot {L M : List Nat} {r : Nat} (h : DotIs L M r) : FinW r ∧ (0 < V r ↔ signS L M = 1) ∧ (V r < 0 ↔ signS L M = -1) ∧ (signS L M = -1 ∨ signS L M = 0 ∨ signS L M = 1) := by
  unfold signS
  by_cases h0 : errB L M = 0
  · rw [if_pos h0]
    obtain ⟨h1, h2, h3⟩ := h.1 h0
    have hz := RN_sign (prodL L M).sum
    have hz2 := @RN_zero_iff (prodL L M).sum
    generalize (prodL L M).sum = z at *
    rw [h2]
    unfold signI
    refine ⟨h1, ?_⟩
    by_cases c1 : z < 0
    · rw [if_pos c1]
      have := hz.2 (by omega)
      have : RN z ≠ 0 := fun h => by have := hz2 h; omega
      omega
    · rw [if_neg c1]
      by_cases c2 : z = 0
      · rw [if_pos c2, c2, RN_zero]; omega
      · rw [if_neg c2]
        have := hz.1 (by omega)
        have : RN z ≠ 0 := fun h => c2 (hz2 h)
        omega
  · rw [if_neg h0, h.2 h0, V_zero]
    exact ⟨⟨by omega, by omega⟩, by omega, by omega, by omega⟩

theorem oneAt (a : Nat) (w : World) : At (w.alloc (.cells #[.float .f64 a] 25)) (some ⟨w.heap.size, 0, none⟩) [a] := by
  intro i hi
  refine ⟨w.heap.size, 0, rfl, ?_⟩
  rw [World.cell?_alloc_at _ _ _ _ rfl]
  obtain rfl : i = 0 := by simp at hi; omega
  rfl

structure Neg (B : Nat) (w0 : World) (L : List Nat) (i : Nat) (v : Value) (wr : World) : Prop where
  old : Below B w0 wr
  own : wr.ownsRow B 25 1 v (negL (L.take i)).length ((negL (L.take i)).map (Value.float .f64))
  size : B ≤ wr.heap.size
theorem Neg.next {B : Nat} {w0 : World} {L : List Nat} {i : Nat} {v v' : Value} {wr w' : World} {o : Obj} (N : Neg B w0 L i v wr) (hi : i < L.length)
    (ho : w'.ownsRow B 25 1 v' (negL (L.take i) ++ [negW (L.getD i 0)]).length ((negL (L.take i) ++ [negW (L.getD i 0)]).map (Value.float .f64))) (hg : (wr.alloc o).grownBy w' v.ownBlock) : Neg B w0 L (i + 1) v' w' := by
  have hlt := N.own.lt
  have hs := N.size
  refine ⟨(N.old.alloc hs o).grown hg (by simp; omega) (fun k hk => (hlt k hk).1), ?_, by have := hg.size; simp at this; omega⟩
  rw [negL_succ hi]; exact ho

set_option maxHeartbeats 2000000 in
theorem walk (w : World) (ao0 : Option Addr) (cap0 : Nat) (L0 : List Nat) (hc0 : L0.length ≤ cap0) (hw0 : Words L0) (ha0 : At w ao0 L0) (hr0 : cap0 * 8 ≤ 140737488351232) (hn0 : ao0 = none → cap0 = 0) (ao1 : Option Addr) (cap1 : Nat) (L1 : List Nat) (hc1 : L1.length ≤ cap1) (hw1 : Words L1) (ha1 : At w ao1 L1) (hr1 : cap1 * 8 ≤ 140737488351232) (hn1 : ao1 = none → cap1 = 0) :
    Calls Try.prog 8 #[.slice ao0 L0.length cap0, .slice ao1 L1.length cap1] w fun e w' => e = .returned (.bool true) ∧ Below w.heap.size w w' := by
  obtain ⟨n, hn⟩ : ∃ n, n = L0.length := ⟨_, rfl⟩
  obtain ⟨m, hm⟩ : ∃ m, m = L1.length := ⟨_, rfl⟩
  rw [← hn] at hc0 ⊢
  rw [← hm] at hc1 ⊢
  have hrn : n * 8 ≤ 140737488351232 := by omega
  have hrm : m * 8 ≤ 140737488351232 := by omega
  have D := fun ao c bo c' x h h' => dot_run ao bo c c' n m L0 L1 x hn hm (by omega) (by omega) hw0 hw1 h h'
  have S := fun ao c bo c' x h h' => psign_run ao bo c c' n m L0 L1 x hn hm (by omega) (by omega) hw0 hw1 h h'
  have X0 := fun ao c x h => exact_run ao c n L0 x hn (by omega) hw0 h
  have X1 := fun ao c x h => exact_run ao c n (negL L0) x (by rw [negL_len]; exact hn) (by omega) (negL_words hw0) h
  have hsd := fun r (h : DotIs L0 L1 r) => sign_dot h
  have hzl := fun x y (h : ExactIs L0 x) (h' : ExactIs (negL L0) y) => zero_less hw0 h h'
  rw [errL_neg hw0] at X1
  generalize errB L0 L1 = eb at *
  generalize signS L0 L1 = sg at *
  obtain ⟨er, her⟩ : ∃ e, e = errL L0 := ⟨_, rfl⟩
  rw [← her] at X0 X1
  have hlt0 := Lib.hid ha0.lt
  have hlt1 := Lib.hid ha1.lt
  have hwd := Lib.hid hw0
  replace ha0 := Lib.hid ha0
  replace ha1 := Lib.hid ha1
  replace hn := Lib.hid hn
  replace hm := Lib.hid hm
  replace D := Lib.hid D
  replace S := Lib.hid S
  replace X0 := Lib.hid X0
  replace X1 := Lib.hid X1
  replace hsd := Lib.hid hsd
  replace hzl := Lib.hid hzl
  clear her hw0 hw1 hr0 hr1 hc0 hc1
  go_enter Try.func8, Try.ntmps8
  go_wp2_with fail
  refine (awake_run w).mono ?_
  rintro _ w1 ⟨rfl, B1⟩
  replace B1 := Lib.hid B1
  go_wp2_with (at_builtin; refine wpList_copy rfl _ _ rfl rfl ao0 n cap0 L0 rfl hn.out hn0 (ha0.out.later B1.out hlt0.out) hrn ?_)
  intro p1 q1 w2 C1
  replace C1 := Lib.hid C1
  have B2 := Lib.hid (B1.out.trans (C1.out.old.mono B1.out.size))
  go_wp2_with (at_builtin; refine wpList_copy rfl _ _ rfl rfl ao1 m cap1 L1 rfl hm.out hn1 (ha1.out.later B2.out hlt1.out) hrm ?_)
  intro p2 q2 w3 C2
  have A1 := Lib.hid (C1.out.at_.later C2.old (fun b o e _ => (C1.out.base b o e).2))
  have B3 := Lib.hid (B2.out.trans (C2.old.mono B2.out.size))
  have A2 := Lib.hid C2.at_
  clear C1 C2 B1 B2
  go_wp2_with fail
  refine (D.out p1 q1 p2 q2 w3 A1.out A2.out).mono ?_
  rintro _ w4 ⟨⟨r, rfl, hr⟩, B4⟩
  have B5 := Lib.hid (B3.out.trans (B4.mono B3.out.size))
  obtain ⟨fr, s1, s2, s3⟩ := hsd.out r hr
  clear B3 B4 A1 A2 hr hsd D
  unfold fe
  have g1 := gt_zero r fr
  have g2 := lt_zero r fr
  go_wp2_with (at_builtin; refine wpList_copy rfl _ _ rfl rfl ao0 n cap0 L0 rfl hn.out hn0 (ha0.out.later B5.out hlt0.out) hrn ?_)
  intro p3 q3 w5 C1
  replace C1 := Lib.hid C1
  have B2 := Lib.hid (B5.out.trans (C1.out.old.mono B5.out.size))
  go_wp2_with (at_builtin; refine wpList_copy rfl _ _ rfl rfl ao1 m cap1 L1 rfl hm.out hn1 (ha1.out.later B2.out hlt1.out) hrm ?_)
  intro p4 q4 w6 C2
  have A1 := Lib.hid (C1.out.at_.later C2.old (fun b o e _ => (C1.out.base b o e).2))
  have B3 := Lib.hid (B2.out.trans (C2.old.mono B2.out.size))
  have A2 := Lib.hid C2.at_
  clear C1 C2 B5 B2
  go_wp2_with fail
  refine (S.out p3 q3 p4 q4 w6 A1.out A2.out).mono ?_
  rintro _ w7 ⟨rfl, B4⟩
  have B5 := Lib.hid (B3.out.trans (B4.mono B3.out.size))
  clear B3 B4 A1 A2 S
  unfold ie
  have e1 : (FloatKind.f64.format.order r 0 == some Ordering.gt) = (sg == 1) := by rw [g1, Bool.eq_iff_iff, decide_eq_true_iff, s1]; simp
  have e2 : (FloatKind.f64.format.order r 0 == some Ordering.lt) = (sg == -1) := by rw [g2, Bool.eq_iff_iff, decide_eq_true_iff, s2]; simp
  clear g1 g2 s1 s2
  obtain ⟨B, hB⟩ : ∃ B, B = w7.heap.size := ⟨_, rfl⟩
  have N0 : Hid (Neg B w7 L0 0 (.slice none 0 0) w7) := ⟨Below.refl _ _, World.ownsRow_nil _ _ _ _, by omega⟩
  replace hB := Lib.hid hB
  have b1 : -1 ≤ sg := by omega
  have b2 : sg ≤ 1 := by omega
  clear s3 fr
  go_wp2_with fail
  clear e1 e2 b1 b2
  go_loopw [9, 10] (fun nv iv wr => ∃ i : Nat, i ≤ n ∧ iv = .int .i64 i ∧ Neg B w7 L0 i nv wr) (fun _ iv _ => n - (intOf iv).toNat)
  case atStart => exact ⟨0, Nat.zero_le _, rfl, N0.out⟩
  case round =>
    obtain ⟨i, hi, rfl, N⟩ := hrel
    by_cases hlt : i < n
    · have hil : i < L0.length := by have := hn.out; omega
      obtain ⟨b, o, rfl, hc⟩ := ((ha0.out.later B5.out hlt0.out).later N.old (fun b o e hp => by rw [hB.out]; exact Nat.lt_of_lt_of_le (hlt0.out b o e hp) B5.out.size)) i hil
      have hneg : ∀ w, (Op.unary .neg (.float .f64 (L0.getD i 0))).run Try.prog w = .ok (.float .f64 (negW (L0.getD i 0))) w := fun w => xneg _ (hwd.out.at hil) w
      have hNx := Lib.hid (fun v' w' ho hg => N.next (v' := v') (w' := w') (o := .cells #[.float .f64 (negW (L0.getD i 0))] 25) hil ho hg)
      have ho1 := N.own.alloc (.cells #[.float .f64 (negW (L0.getD i 0))] 25)
      have hA1 := oneAt (negW (L0.getD i 0)) wr
      have hby : ((negL (L0.take i)).length + [negW (L0.getD i 0)].length) * 8 ≤ 140737488355328 := by rw [negL_len, List.length_take]; simp; omega
      have hsz : B ≤ (wr.alloc (.cells #[.float .f64 (negW (L0.getD i 0))] 25)).heap.size := by have := N.size; simp; omega
      obtain ⟨ao', m', c', rfl⟩ := owns_slice N.own
      obtain ⟨u, hu⟩ : ∃ u, u = L0.getD i 0 := ⟨_, rfl⟩
      rw [← hu] at hc hneg hNx ho1 hA1 hby hsz
      obtain ⟨nu, hnu⟩ : ∃ x, x = negW u := ⟨_, rfl⟩
      rw [← hnu] at hneg hNx ho1 hA1 hby hsz
      clear hu hnu hil N
      go_wp2_with (at_builtin; refine wpList_dup rfl _ _ _ rfl Try.underlying22 B _ (negL (L0.take i)) rfl ho1 (some ⟨wr.heap.size, 0, none⟩) 1 1 [nu] rfl rfl (by intro h; cases h) hA1 hby hsz ?_)
      intro v' w' ho' hg'
      have N2 := Lib.hid (hNx.out v' w' (by simpa using ho') hg')
      clear ho' hg' hNx ho1 hA1 hby hsz
      go_wp2_with fail
      go_roundw
      case rel => exact ⟨i + 1, hlt, by go_num, N2.out⟩
      case measure => simp [intOf]; omega
    · obtain rfl : i = n := by omega
      have hown := N.own
      rw [List.take_of_length_le (by have := hn.out; omega)] at hown
      have B6 := Lib.hid (B5.out.trans (N.old.mono (by rw [hB.out]; exact B5.out.size)))
      obtain ⟨ao', c', rfl, k1, k2, k3, k4, k5⟩ := owns_at hown
      have k3' := Lib.hid k3
      have k5' := Lib.hid k5
      have hlen : (negL L0).length = i := by rw [negL_len]; exact hn.out.symm
      rw [hlen]
      have hsz := Lib.hid N.size
      clear N hown k1 k2 k3 k4 k5 N0 hlen
      go_wp2_with (at_builtin; refine wpList_copy rfl _ _ rfl rfl ao0 i cap0 L0 rfl hn.out hn0 (ha0.out.later B6.out hlt0.out) hrn ?_)
      intro p5 q5 w8 C5
      have A5 := Lib.hid C5.at_
      have k6 := Lib.hid (k3'.out.later C5.old (fun b o e _ => (k5'.out b o e).2))
      have k7 : Hid (∀ b o, ao' = some ⟨b, o, none⟩ → b < w8.heap.size) := fun b o e => Nat.lt_of_lt_of_le (k5'.out b o e).2 C5.old.size
      have B7 := Lib.hid (B6.out.trans (C5.old.mono B6.out.size))
      clear C5 k3' k5' B6 hsz
      go_wp2_with fail
      refine (X0.out p5 q5 w8 A5.out).mono ?_
      rintro _ w9 ⟨⟨x, rfl, hx⟩, B8⟩
      have k8 := Lib.hid (k6.out.later B8 (fun b o e _ => k7.out b o e))
      have B9 := Lib.hid (B7.out.trans (B8.mono B7.out.size))
      replace hx := Lib.hid hx
      clear B7 B8 k6 k7 A5
      unfold fe
      go_wp2_with fail
      refine (X1.out ao' c' w9 k8.out).mono ?_
      rintro _ w10 ⟨⟨y, rfl, hy⟩, B10⟩
      have B11 := Lib.hid (B9.out.trans (B10.mono B9.out.size))
      have hsub := hzl.out x y hx.out hy
      clear B9 B10 k8 hy hx
      unfold fe
      go_wp2_with (go_at_call 32; ((with_reducible refine (same_self _ _).mono ?_); rintro e w' ⟨rfl, rfl⟩))
      go_ret
      exact ⟨rfl, B11.out⟩

theorem own : ownKnob Try.prog.godebug = none := by kernel_rfl
theorem laidOut : laidOutB Try.prog = true := by kernel_rfl
theorem cellsF : Try.prog.cellsOf 25 = 1 := by kernel_rfl
theorem bytesF : Try.prog.bytesOf 25 = 8 := by kernel_rfl
theorem wf64 {b : Nat} (h : (Lit.float .f64 b).wf = true) : b < 18446744073709551616 := by
  simp only [Lit.wf, decide_eq_true_eq] at h; exact h

set_option maxRecDepth 100000 in
theorem lifted (os : Os) (started : os.Started) (H : Type) (enc : TypeId × Value → H) :
    ReturnsInHanded {} Try.checked os 8 .any (Rows.totSignsSpec.pre6 enc Try.prog Try.f8 Rows.totSignsRow.domain false) (Rows.totSignsSpec.post enc Try.prog Try.f8 false true false false) := by
  refine returnsInHanded_of_change_sized (C := Try.checked) own started (by kernel_rfl) Try.func8
    (ChangeSpec.witness6 (enc := enc) (C := Try.checked) false ⟨#[], #[.slice none 0 0, .slice none 0 0], []⟩ 8 (by kernel_rfl) (by kernel_rfl) (by kernel_rfl) (by kernel_rfl)) ?_
  intro W base args ds gs before hval0 hW _ hsz0 _
  have hsz : (DataW.weightsEach Try.prog (Try.f8.params.toList ++ Rows.totSignsSpec.plain.varTypes Try.prog) (ds ++ gs)).all (· ≤ reachBytes) = true := hsz0
  clear hsz0
  have hval : ∀ (j : Nat) t v, Try.f8.params[j]? = some t → args[j]? = some v → Value.okWide Try.prog W .any base t v := hval0
  have hW' := hW
  obtain ⟨p, q, hA0, hV, rfl, _, _⟩ := hW
  have hA : DataW.TrodAll enc Try.prog W 0 (fun _ => true) true Try.f8.params.toList args.toList ds p := hA0
  rw [Try.params8] at hA hval hsz
  obtain ⟨v0, vs0, d0, ds0, p0, q0, hargs, rfl, rfl, t0, r0⟩ := trodAll_cons hA
  obtain ⟨v1, vs1, d1, ds1, p1, q1, rfl, rfl, rfl, t1, r1⟩ := trodAll_cons r0
  obtain ⟨rfl, rfl, rfl⟩ := trodAll_nil r1
  obtain rfl : args = #[v0, v1] := by cases args; simp_all
  obtain ⟨rfl, rfl⟩ := trodVars_none hV
  simp only [List.append_nil] at hW'
  have tk0 := t0
  obtain ⟨ao0, cap0, L0, rfl, hc0, hw0, ha0, hx0⟩ := open_flts Try.underlying22 Try.underlying25 cellsF (okWide_slice Try.underlying22 (hval 0 22 v0 rfl rfl)) t0
  have hr0 : cap0 * 8 ≤ 140737488351232 := by
    rcases hx0 with ⟨_, h0⟩ | ⟨_, es, sp, hd, h0⟩
    · rw [h0]; decide
    · subst hd
      have := sized_slice hsz (j := 0) (t := 22) (e := 25) rfl rfl Try.underlying22
      rw [bytesF, h0] at this
      simp only [reachBytes] at this
      omega
  have hn0 : ao0 = none → cap0 = 0 := by
    intro h
    rcases hx0 with ⟨_, h0⟩ | ⟨⟨a, h1⟩, _⟩
    · exact h0
    · rw [h] at h1; simp at h1
  have hlt0 : ∀ x ∈ p0, x.block < W.heap.size := fun x hx => by have := hW'.lt x (by simp [hx]); simpa using this
  have tk1 := t1
  obtain ⟨ao1, cap1, L1, rfl, hc1, hw1, ha1, hx1⟩ := open_flts Try.underlying22 Try.underlying25 cellsF (okWide_slice Try.underlying22 (hval 1 22 v1 rfl rfl)) t1
  have hr1 : cap1 * 8 ≤ 140737488351232 := by
    rcases hx1 with ⟨_, h0⟩ | ⟨_, es, sp, hd, h0⟩
    · rw [h0]; decide
    · subst hd
      have := sized_slice hsz (j := 1) (t := 22) (e := 25) rfl rfl Try.underlying22
      rw [bytesF, h0] at this
      simp only [reachBytes] at this
      omega
  have hn1 : ao1 = none → cap1 = 0 := by
    intro h
    rcases hx1 with ⟨_, h0⟩ | ⟨⟨a, h1⟩, _⟩
    · exact h0
    · rw [h] at h1; simp at h1
  have hlt1 : ∀ x ∈ p1, x.block < W.heap.size := fun x hx => by have := hW'.lt x (by simp [hx]); simpa using this
  clear hA0 hval0
  refine (walk W ao0 cap0 L0 hc0 hw0 ha0 hr0 hn0 ao1 cap1 L1 hc1 hw1 ha1 hr1 hn1).mono fun e W' ⟨he, hb⟩ => ?_
  subst he
  refine ⟨_, rfl, _, _, _, [], _, [], hW', trodAll_cons_mk (shut_bool Try.underlying4 _) trodAll_mk0, (trodAll_cons_mk (Below.trod laidOut (by kernel_rfl) (of_decide_eq_true (by kernel_rfl)) tk0 hb hlt0) (trodAll_cons_mk (Below.trod laidOut (by kernel_rfl) (of_decide_eq_true (by kernel_rfl)) tk1 hb hlt1) trodAll_mk0)), rfl, hb.frame _, fun h => by cases h⟩

theorem over : Rows.totSignsRow.holds Try.pinned (OpenSpec.ofChange Rows.totSignsSpec) :=
  OpenClaim.holds_of_wide 8 Try.f8 rfl rfl rfl rfl rfl rfl rfl ⟨rfl, rfl, rfl, rfl, rfl⟩ rfl rfl rfl rfl rfl (by kernel_rfl) Try.func8 (by kernel_rfl)
    (of_decide_eq_true (by kernel_rfl)) (by unfold Func.isWrapper; first | (rw [if_pos (by decide +kernel)]; kernel_rfl) | (rw [if_neg (by decide +kernel)]; exact ⟨rfl, rfl⟩))
    (fun os started H enc _ => lifted os started H enc)

theorem proved : Rows.TotSignsSaid :=
  over
end Go.Proofs.Ythgpdgajmpocfaa.totSigns
