/- Proved here: for all values and counts the law ChebFits returns true: Nodes and Fit answer just so. No conditions. -/
import Derived.Test.YtnmadknpkhaolaaRows
import Derived.Test.YtnmadknpkhaolaaJz20
import Derived.Test.YtnmadknpkhaolaaJz19
import Derived.Test.YtnmadknpkhaolaaJz16
import Derived.ArgAppend
namespace Go.Proofs.Ytnmadknpkhaolaa.chebFits
open Go.ChangeShapes Go.WideShapes Go.ChangeAt Go.RowKit

set_option maxRecDepth 100000 in
theorem bytesF : Try.prog.bytesOf 30 = 8 := by kernel_rfl
set_option maxRecDepth 100000 in
theorem cellsF : Try.prog.cellsOf 30 = 1 := by kernel_rfl
def AllF (us : List Value) (n : Nat) : Prop := us.length = n ∧ ∀ k, k < n → ∃ x, us[k]? = some (.float .f64 x)
theorem AllF.of (N : List Nat) : AllF (N.map (Value.float .f64)) N.length := ⟨by simp, fun k hk => ⟨N.getD k 0, by simp [List.getD, hk]⟩⟩
theorem AllF.set {us : List Value} {n : Nat} (h : AllF us n) (i y : Nat) : AllF (us.set i (.float .f64 y)) n := by
  refine ⟨by rw [List.length_set]; exact h.1, fun k hk => ?_⟩
  by_cases e : i = k
  · subst e
    exact ⟨y, by rw [List.getElem?_set_self (by rw [h.1]; exact hk)]⟩
  · obtain ⟨x, hx⟩ := h.2 k hk
    exact ⟨x, by rw [List.getElem?_set_ne e]; exact hx⟩
theorem ownsR_slice {w : World} {base : Nat} {e : TypeId} {size n : Nat} {v : Value} {xs : List Value} (h : w.ownsRow base e size v n xs) : ∃ ao m c, v = .slice ao m c := owns_slice h
theorem own_len {w : World} {base : Nat} {e : TypeId} {size n : Nat} {v : Value} {xs : List Value} (h : w.ownsRow base e size v n xs) {ao : Option Addr} {m c : Nat} (hv : v = .slice ao m c) : m = n := by
  rcases h.2 with ⟨e1, h0⟩ | ⟨g, cap, cur, e1, -⟩
  · rw [e1] at hv
    injection hv with _ e2 _
    omega
  · rw [e1] at hv
    injection hv with _ e2 _
    omega
set_option maxHeartbeats 2000000 in
set_option maxRecDepth 100000 in
theorem walk (w : World) (ao0 : Option Addr) (cap0 : Nat) (L0 : List Nat) (hc0 : L0.length ≤ cap0) (hw0 : Words L0) (ha0 : At w ao0 L0) (hr0 : cap0 * 8 ≤ 140737488351232) (hn0 : ao0 = none → cap0 = 0) (a1 : Int) (_h1 : (Lit.int .i64 a1).wf = true) :
    Calls Try.prog 3 #[.slice ao0 L0.length cap0, .int .i64 a1] w fun e w' => e = .returned (.bool true) ∧ Below w.heap.size w w' := by
  have AW := Lib.hid awake13
  obtain ⟨n, hn⟩ : ∃ n, n = L0.length := ⟨_, rfl⟩
  rw [← hn] at hc0 ⊢
  have hrn : n * 8 ≤ 140737488351232 := by omega
  have hm : n ≤ 4611686018427387904 := by omega
  have hmx : n + 2 ≤ 4611686018427387904 := by omega
  have lt0 : Hid (∀ b o, ao0 = some ⟨b, o, none⟩ → 0 < L0.length → b < w.heap.size) := Lib.hid ha0.lt
  obtain ⟨N, kn, hN, ON, RN⟩ := two_nodes a1
  obtain ⟨F, kf, hF, OF, RF⟩ := two_fits hn hm hw0
  obtain ⟨m, hmN⟩ : ∃ m, m = N.length := ⟨_, rfl⟩
  obtain ⟨q, hqF⟩ : ∃ q, q = F.length := ⟨_, rfl⟩
  rw [← hmN] at hN ON RN
  rw [← hqF] at hF OF RF
  replace hn := Lib.hid hn
  replace ha0 := Lib.hid ha0
  replace hw0 := Lib.hid hw0
  replace hn0 := Lib.hid hn0
  replace hmN := Lib.hid hmN
  replace hqF := Lib.hid hqF
  replace ON := Lib.hid ON
  replace RN := Lib.hid RN
  replace OF := Lib.hid OF
  replace RF := Lib.hid RF
  replace hm := Lib.hid hm
  replace hmx := Lib.hid hmx
  replace hrn := Lib.hid hrn
  replace hc0 := Lib.hid hc0
  replace hr0 := Lib.hid hr0
  go_enter Try.func3, Try.ntmps3
  go_wp2_with fail
  refine (AW.out w).mono ?_
  rintro _ v1 ⟨rfl, hb⟩
  have A1 : At v1 ao0 L0 := ha0.out.later hb (fun b o e h => lt0.out b o e h)
  have RM := Lib.hid (roomy_run ao0 cap0 n L0 v1 hn.out hrn.out hn0.out A1)
  replace hb := Lib.hid hb
  clear AW A1
  go_wp2_with fail
  refine RM.out.mono ?_
  rintro _ v2 ⟨g5, cap5, rfl, hr1, hr2, hA5, hg1, hg2, hb2⟩
  have b2 := Lib.hid (hb.out.trans (hb2.mono hb.out.size))
  replace hA5 := Lib.hid hA5
  replace hr1 := Lib.hid hr1
  replace hr2 := Lib.hid hr2
  replace hg2 := Lib.hid hg2
  clear RM hb hb2 hg1
  go_wp2_with fail
  refine (ON.out v2).mono ?_
  rintro _ v3 ⟨an, cn, rfl, hAn, hb3⟩
  have b3 := Lib.hid (b2.out.trans (hb3.mono b2.out.size))
  have A5 := Lib.hid (hA5.out.later hb3 (fun b o e h => by cases e; exact hg2.out))
  have g3 := Lib.hid (Nat.lt_of_lt_of_le hg2.out hb3.size)
  have ltn := Lib.hid hAn.lt
  replace hAn := Lib.hid hAn
  clear ON hb3 b2 hA5 hg2
  go_wp2_with fail
  refine (RN.out v3).mono ?_
  rintro _ v4 ⟨an2, cn2, rfl, hAn2, hb4⟩
  have b4 := Lib.hid (b3.out.trans (hb4.mono b3.out.size))
  have A5' := Lib.hid (A5.out.later hb4 (fun b o e h => by cases e; exact g3.out))
  have g4 := Lib.hid (Nat.lt_of_lt_of_le g3.out hb4.size)
  have An1 : At v4 an N := hAn.out.later hb4 (fun b o e h => ltn.out b o e h)
  have SL := Lib.hid (samelist_run an an2 cn cn2 m N v4 hmN.out (by omega) An1 hAn2)
  clear RN hb4 b3 A5 g3 hAn ltn An1 hAn2
  go_wp2_with fail
  refine SL.out.mono ?_
  rintro _ v5 ⟨rfl, hd5⟩
  have b5 := Lib.hid (b4.out.trans (hd5.below _))
  have A5 := Lib.hid (A5'.out.drawn hd5)
  have g5' := Lib.hid (show g5 < v5.heap.size from Nat.lt_of_lt_of_le g4.out (hd5.below v4.heap.size).size)
  clear SL hd5 b4 A5' g4
  have OF1 := Lib.hid (OF.out v5 (some ⟨g5, 0, none⟩) cap5 A5.out.left)
  go_wp2_with fail
  refine OF1.out.mono ?_
  rintro _ v6 ⟨fo, rfl, hO6, hb6⟩
  have b6 := Lib.hid (b5.out.trans (hb6.mono b5.out.size))
  have A0 : At v6 ao0 L0 := ha0.out.later b6.out (fun b o e h => lt0.out b o e h)
  have RF1 := Lib.hid (RF.out v6 ao0 cap0 A0)
  replace hO6 := Lib.hid hO6
  replace hb6 := Lib.hid hb6
  clear OF OF1 A0 RF
  go_wp2_with fail
  refine RF1.out.mono ?_
  rintro _ v7 ⟨af, cf, rfl, hAf, hb7⟩
  have b7 := Lib.hid (b6.out.trans (hb7.mono b6.out.size))
  have c7 := Lib.hid (hb6.out.trans (hb7.mono hb6.out.size))
  have O7 := Lib.hid (hO6.out.on hb7)
  have SL := Lib.hid (samelist_run fo af q cf q F v7 hqF.out (by omega) O7.out.at_ hAf)
  clear RF1 hb7 hO6 hb6 b6 hAf
  go_wp2_with fail
  refine SL.out.mono ?_
  rintro _ v8 ⟨rfl, hd8⟩
  have b8 := Lib.hid (b7.out.trans (hd8.below _))
  have c8 := Lib.hid (c7.out.trans (hd8.below _))
  have O8 := Lib.hid (O7.out.on (hd8.below _))
  clear SL hd8 b7 c7 O7
  have hst := @fstore
  have U8 : Hid (∃ us, AllF us q ∧ ((fo = none ∧ q = 0) ∨ (fo = some ⟨v5.heap.size, 0, none⟩ ∧ BV v8 v5.heap.size us))) := Lib.hid (by
    refine ⟨F.map (Value.float .f64), hqF.out ▸ AllF.of F, ?_⟩
    rcases O8.out with ⟨e1, e2⟩ | h
    · left
      refine ⟨e1, ?_⟩
      rw [hqF.out, e2]; rfl
    · exact .inr h)
  clear O8
  go_wp2_with fail
  go_loopw [10] (fun iv wr => ∃ i : Nat, i ≤ q ∧ iv = .int .i64 i ∧ (∃ us, AllF us q ∧ ((fo = none ∧ q = 0) ∨ (fo = some ⟨v5.heap.size, 0, none⟩ ∧ BV wr v5.heap.size us))) ∧ Below v5.heap.size v5 wr) (fun iv _ => q - (intOf iv).toNat)
  case atStart => exact ⟨0, Nat.zero_le _, rfl, U8.out, c8.out⟩
  case round =>
    clear U8 c8
    obtain ⟨i, hi, rfl, ⟨us, hus, hO⟩, hc⟩ := hrel
    by_cases hlt : i < q
    · obtain ⟨rfl, B⟩ : fo = some ⟨v5.heap.size, 0, none⟩ ∧ BV wr v5.heap.size us := by
        rcases hO with ⟨-, e⟩ | h
        · omega
        · exact h
      obtain ⟨x, hx⟩ := hus.2 i hlt
      have c1 := B.at_ i _ hx
      have f1 := B.fr i _ hx
      have B3 := Lib.hid (B.set1 hx (.float .f64 4614500768194494464))
      have U3 := Lib.hid (hus.set i 4614500768194494464)
      have c3 := Lib.hid (hc.setCell (p := ⟨v5.heap.size, i, none⟩) (Nat.le_refl _) (.float .f64 4614500768194494464))
      have hi2 : (i : Int) < (q : Int) := by omega
      clear hO B hx hus hc
      generalize hgg : v5.heap.size = gg at *
      go_wp2_with fail
      go_roundw
      case rel => exact ⟨i + 1, hlt, by go_num, ⟨_, U3.out, .inr ⟨by trivial, B3.out⟩⟩, c3.out⟩
      case measure => simp [intOf]; omega
    · obtain rfl : i = q := by omega
      obtain ⟨w2, hw2⟩ : ∃ w2, w2 = wr.alloc (.cells #[.float .f64 4607182418800017408, .float .f64 4611686018427387904] 30) := ⟨_, rfl⟩
      have i2 : (i : Int) ≤ 16 := by omega
      have hal : Hid (Below wr.heap.size wr w2) := Lib.hid (by rw [hw2]; exact (Below.refl _ _).alloc (Nat.le_refl _) _)
      have cells : Hid (∀ b, fo = some b → ∀ j u, us[j]? = some u → w2.cell? (b.add j) = some u) := Lib.hid (fun b e j u hj => by
        rcases hO with ⟨e0, -⟩ | ⟨e0, B⟩
        · rw [e0] at e; cases e
        · rw [e0] at e
          cases e
          rw [Addr.add_lit, Nat.zero_add]
          exact (B.on hal.out).at_ j u hj)
      have hnn : Hid (fo = none → i = 0 ∧ i = 0) := Lib.hid (fun e => by
        rcases hO with ⟨-, e0⟩ | ⟨e0, -⟩
        · exact ⟨e0, e0⟩
        · rw [e0] at e; cases e)
      have hul : Hid (us.length = i * 1) := Lib.hid (by rw [hus.1, Nat.mul_one])
      have news : Hid (∀ j u, ([.float .f64 4607182418800017408, .float .f64 4611686018427387904] : List Value)[j]? = some u → w2.cell? ((⟨wr.heap.size, 0, none⟩ : Addr).add j) = some u) := Lib.hid (fun j u hj => by
        rw [Addr.add_lit, Nat.zero_add, hw2, World.cell?_alloc_at _ _ _ _ rfl]
        simpa using hj)
      have c9 := Lib.hid (hc.trans (hal.out.mono hc.size))
      clear hO hus hc
      rw [hw2] at cells news c9
      clear hw2 hal
      obtain ⟨i0, hi0, hz0, hz1, hz2⟩ := info_ofR rec64.info
      have I0 := Lib.hid (And.intro hi0 (And.intro hz0 (And.intro hz1 hz2)))
      clear hi0 hz0 hz1 hz2
      go_wp2_with (at_builtin; refine wpList_append_grows _ rfl _ _ _ rfl 30 i0 (.float .f64 0) 1 8 Try.underlying22 I0.out.1 I0.out.2.1 I0.out.2.2.1 I0.out.2.2.2 rfl (by decide) fo i i us rfl hnn.out hul.out cells.out ⟨wr.heap.size, 0, none⟩ 2 2 [.float .f64 4607182418800017408, .float .f64 4611686018427387904] rfl rfl news.out ?h1c (by omega) (by unfold maxLen; omega) (by omega) ?hK)
      case h1c => intro u hu; simp only [List.mem_cons, List.not_mem_nil, or_false] at hu; rcases hu with rfl | rfl <;> rfl
      intro v' w' ho' hg'
      obtain ⟨ao9, m9, c9', e9⟩ := ownsR_slice ho'
      have d9 := Lib.hid (c9.out.grown hg' c9.out.size (fun k hk => by cases hk))
      have m9e : m9 = i + 2 := own_len ho' e9
      subst e9 m9e
      have A9 : At w' (some ⟨g5, 0, none⟩) (L0 ++ marks) := A5.out.later d9.out (fun b o e h => by cases e; exact g5'.out)
      have bz := Lib.hid (b5.out.trans (d9.out.mono b5.out.size))
      have A0 : At w' ao0 L0 := ha0.out.later bz.out (fun b o e h => lt0.out b o e h)
      have KP := Lib.hid (rkeptlist_run g5 ao0 cap0 cap5 n L0 w' hn.out hm.out hr1.out hr2.out A9 A0)
      clear A9 A0 ho' hg' cells news hul hnn d9 c9
      go_wp2_with fail
      refine KP.out.mono ?_
      rintro _ wz ⟨rfl, hdz⟩
      have bf := Lib.hid (bz.out.trans (hdz.below _))
      clear KP hdz
      go_wp2_with fail
      go_ret
      exact ⟨rfl, bf.out⟩

set_option maxRecDepth 100000 in
theorem own : ownKnob Try.prog.godebug = none := by kernel_rfl
set_option maxRecDepth 100000 in
theorem laidOut : laidOutB Try.prog = true := by kernel_rfl
set_option maxRecDepth 100000 in
theorem lifted (os : Os) (started : os.Started) (H : Type) (enc : TypeId × Value → H) :
    ReturnsInHanded {} Try.checked os 3 .any (Rows.chebFitsSpec.pre6 enc Try.prog Try.f3 Rows.chebFitsRow.domain false) (Rows.chebFitsSpec.post enc Try.prog Try.f3 false true false false) := by
  refine returnsInHanded_of_change_sized (C := Try.checked) own started (by kernel_rfl) Try.func3
    (ChangeSpec.witness6 (enc := enc) (C := Try.checked) false ⟨#[], #[.slice none 0 0, .int .i64 0], []⟩ 8 (by kernel_rfl) (by kernel_rfl) (by kernel_rfl) (by kernel_rfl)) ?_
  intro W base args ds gs before hval0 hW _ hsz0 _
  have hsz : (DataW.weightsEach Try.prog (Try.f3.params.toList ++ Rows.chebFitsSpec.plain.varTypes Try.prog) (ds ++ gs)).all (· ≤ reachBytes) = true := hsz0
  clear hsz0
  have hval : ∀ (j : Nat) t v, Try.f3.params[j]? = some t → args[j]? = some v → Value.okWide Try.prog W .any base t v := hval0
  have hW' := hW
  obtain ⟨p, q, hA0, hV, rfl, _, _⟩ := hW
  have hA : DataW.TrodAll enc Try.prog W 0 (fun _ => true) true Try.f3.params.toList args.toList ds p := hA0
  rw [Try.params3] at hA hval hsz
  obtain ⟨v0, vs0, d0, ds0, p0, q0, hargs, rfl, rfl, t0, r0⟩ := trodAll_cons hA
  obtain ⟨v1, vs1, d1, ds1, p1, q1, rfl, rfl, rfl, t1, r1⟩ := trodAll_cons r0
  obtain ⟨rfl, rfl, rfl⟩ := trodAll_nil r1
  obtain rfl : args = #[v0, v1] := by cases args; simp_all
  obtain ⟨rfl, rfl⟩ := trodVars_none hV
  simp only [List.append_nil] at hW'
  have tk0 := t0
  obtain ⟨ao0, cap0, L0, rfl, hc0, hw0, ha0, hx0⟩ := open_flts Try.underlying22 Try.underlying30 cellsF (okWide_slice Try.underlying22 (hval 0 22 v0 rfl rfl)) t0
  have hr0 : cap0 * 8 ≤ 140737488351232 := by
    rcases hx0 with ⟨_, h0⟩ | ⟨_, es, sp, hd, h0⟩
    · rw [h0]; decide
    · subst hd
      have := sized_slice hsz (j := 0) (t := 22) (e := 30) rfl rfl Try.underlying22
      rw [bytesF, h0] at this
      simp only [reachBytes] at this
      omega
  have hn0 : ao0 = none → cap0 = 0 := by
    intro h
    rcases hx0 with ⟨_, h0⟩ | ⟨⟨a, h1⟩, _⟩
    · exact h0
    · rw [h] at h1; simp at h1
  have hlt0 : ∀ x ∈ p0, x.block < W.heap.size := fun x hx => by have := hW'.lt x (by simp [hx]); simpa using this
  obtain ⟨a1, rfl, rfl, rfl, w1⟩ := open_int Try.underlying3 (hval 1 3 v1 rfl rfl) t1
  clear hA0 hval0
  refine (walk W ao0 cap0 L0 hc0 hw0 ha0 hr0 hn0 a1 w1).mono fun e W' ⟨he, hb⟩ => ?_
  subst he
  refine ⟨_, rfl, _, _, _, [], _, [], hW', trodAll_cons_mk (shut_bool Try.underlying4 _) trodAll_mk0, (trodAll_cons_mk (Below.trod laidOut (by kernel_rfl) (of_decide_eq_true (by kernel_rfl)) tk0 hb hlt0) (trodAll_cons_mk (shut_int Try.underlying3 w1) trodAll_mk0)), rfl, hb.frame _, fun h => by cases h⟩

set_option maxRecDepth 100000 in
theorem over : Rows.chebFitsRow.holds Try.pinned (OpenSpec.ofChange Rows.chebFitsSpec) :=
  OpenClaim.holds_of_wide 3 Try.f3 rfl rfl rfl rfl rfl rfl rfl ⟨rfl, rfl, rfl, rfl, rfl⟩ rfl rfl rfl rfl rfl (by kernel_rfl) Try.func3 (by kernel_rfl)
    (of_decide_eq_true (by kernel_rfl)) (by unfold Func.isWrapper; first | (rw [if_pos (by decide +kernel)]; kernel_rfl) | (rw [if_neg (by decide +kernel)]; exact ⟨rfl, rfl⟩))
    (fun os started H enc _ => lifted os started H enc)

theorem proved : Rows.ChebFitsSaid :=
  over
end Go.Proofs.Ytnmadknpkhaolaa.chebFits
