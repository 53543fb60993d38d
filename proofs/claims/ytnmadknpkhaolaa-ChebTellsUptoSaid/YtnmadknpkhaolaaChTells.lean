/- Proved here: for all tables and times that the second form names the law ChebTells returns true: Check, Piece and At answer just so, and the table is kept. -/
import Derived.Test.YtnmadknpkhaolaaRows
import Derived.Test.YtnmadknpkhaolaaJz19
import Derived.Test.YtnmadknpkhaolaaJz20
import Derived.Test.YtnmadknpkhaolaaJz10
import Derived.Test.YtnmadknpkhaolaaJz9
import Derived.JoinedCond
import Derived.Deep.CondSized
namespace Go.Proofs.Ytnmadknpkhaolaa.chebTells
open Go.ChangeShapes Go.WideShapes Go.ChangeAt Go.RowKit

theorem wf64 {b : Nat} (h : (Lit.float .f64 b).wf = true) : b < 18446744073709551616 := by
  simp only [Lit.wf, decide_eq_true_eq] at h; exact h
theorem bulk_pos {H : Type} (d : DataW H) : 1 ≤ Rows.uptoBulk d := by
  cases d with
  | lit l => cases l <;> simp [Rows.uptoBulk]
  | nil => simp [Rows.uptoBulk]
  | ptr d => simp [Rows.uptoBulk]
  | slice es sp => simp [Rows.uptoBulk]
  | agg ps => simp [Rows.uptoBulk]
  | iface _ d => simp [Rows.uptoBulk]
  | map es => simp [Rows.uptoBulk]
  | held _ => simp [Rows.uptoBulk]
theorem bulk_len {H : Type} : ∀ (es : List (DataW H)), es.length ≤ Rows.uptoBulkAll es
  | [] => by simp [Rows.uptoBulkAll]
  | d :: es => by
    have a := bulk_pos d
    have b := bulk_len es
    simp only [Rows.uptoBulkAll, List.length_cons]
    omega
theorem bulk_get {H : Type} : ∀ {es : List (DataW H)} {i : Nat} {d : DataW H}, es[i]? = some d → Rows.uptoBulk d ≤ Rows.uptoBulkAll es
  | [], i, d, h => by simp at h
  | e :: es, 0, d, h => by
    simp at h
    subst h
    simp only [Rows.uptoBulkAll]
    omega
  | e :: es, i + 1, d, h => by
    have := bulk_get (es := es) (i := i) (d := d) (by simpa using h)
    simp only [Rows.uptoBulkAll]
    omega
theorem ld_up {H : Type} {p : DataW H} {L : List Nat} (h : LD p L) (hk : Rows.uptoBulk p ≤ 1048576) : L.length ≤ 1048576 := by
  rcases h with ⟨rfl, -⟩ | ⟨es, sp, rfl, e⟩
  · simp
  · have := bulk_len es
    simp only [Rows.uptoBulk] at hk
    omega
theorem td_up {H : Type} {d0 d1 d2 : DataW H} {rest : List (DataW H)} {t : Tb} (h : TD d2 t.rows) (hk : Rows.uptoBulkAll (.agg [d0, d1, d2] :: rest) ≤ 1048576) : TbUp t := by
  refine ⟨fun i k hk3 => ?_⟩
  by_cases hi : i < t.rows.length
  · rcases h with ⟨e, -⟩ | ⟨es, sp, rfl, e, hr⟩
    · rw [e] at hi; simp at hi
    · obtain ⟨p0, p1, p2, ei, l0, l1, l2⟩ := hr i hi
      have a := bulk_get ei
      simp only [Rows.uptoBulkAll, Rows.uptoBulk] at hk a
      have : k = 0 ∨ k = 1 ∨ k = 2 := by omega
      rcases this with rfl | rfl | rfl
      · exact ld_up l0 (by omega)
      · exact ld_up l1 (by omega)
      · exact ld_up l2 (by omega)
  · rw [cf_out hi]; simp
theorem pie_any (t : Tb) (d : Nat) : ∃ (i : Int) (x : Nat) (k : Int), pieE t d = .tuple #[.int .i64 i, .float .f64 x, .int .i64 k] := by
  unfold pieE
  split
  · exact ⟨_, _, _, rfl⟩
  · exact ⟨_, _, _, rfl⟩
set_option maxHeartbeats 2000000 in
set_option maxRecDepth 100000 in
theorem walk (w : World) (ao0 : Option Addr) (cap0 : Nat) (T0 : Tb) (hc0 : T0.rows.length ≤ cap0) (hm0 : cap0 ≤ maxLen) (hn0 : ao0 = none → cap0 = 0) (hw0 : TbW T0) (ha0 : TbAt w ao0 T0.rows) (hS0 : TbSz T0) (hU0 : TbUp T0) (a1 : Nat) (h1 : a1 < 18446744073709551616) :
    Calls Try.prog 4 #[tbV T0 ao0 cap0, .float .f64 a1] w fun e w' => e = .returned (.bool true) ∧ Below w.heap.size w w' := by
  have _u : _ ∧ _ ∧ _ := ⟨hc0, hm0, hn0⟩
  clear _u
  have AW := Lib.hid awake13
  have hn62 : T0.rows.length ≤ 4611686018427387904 := by have := hS0.n; omega
  have hl62 : ∀ i k, k < 3 → (cfT T0.rows i k).length ≤ 4611686018427387904 := fun i k hk => by have := hU0.l i k hk; omega
  obtain ⟨RA, hRA⟩ : ∃ RA, RA = atH T0 a1 := ⟨_, rfl⟩
  obtain ⟨VC, hVC⟩ : ∃ VC, VC = chkT T0 := ⟨_, rfl⟩
  obtain ⟨pi, px, pk, hP⟩ := pie_any T0 a1
  have TR : Hid (∀ W, Below w.heap.size w W → Calls Try.prog 19 #[tbV T0 ao0 cap0] W fun e w' => ∃ ao' cap', e = .returned (tbV T0 ao' cap') ∧ T0.rows.length ≤ cap' ∧ cap' ≤ maxLen ∧ (ao' = none → cap' = 0) ∧ TbAt w' ao' T0.rows ∧ Below W.heap.size W w') := Lib.hid fun W hb => table_run ao0 cap0 W hS0 (ha0.on hb)
  have C1 : Hid (∀ W, Below w.heap.size w W → Calls Try.prog 17 #[tbV T0 ao0 cap0] W fun e w' => e = .returned (.int .i64 VC) ∧ Below W.heap.size W w') := Lib.hid fun W hb => by rw [hVC]; exact ccheck_run ao0 cap0 W hn62 hw0 (ha0.on hb)
  have C2 : Hid (∀ W, Below w.heap.size w W → Calls Try.prog 18 #[tbV T0 ao0 cap0] W fun e w' => e = .returned (.int .i64 VC) ∧ Below W.heap.size W w') := Lib.hid fun W hb => by rw [hVC]; exact rcheck13_run ao0 cap0 W hn62 hw0 hU0 (ha0.on hb)
  have P1 : Hid (∀ W ao cap, TbAt W ao T0.rows → Calls Try.prog 20 #[tbV T0 ao cap, .float .f64 a1] W fun e w' => e = .returned (.tuple #[.int .i64 pi, .float .f64 px, .int .i64 pk]) ∧ Below W.heap.size W w') := Lib.hid fun W ao cap ha => by rw [← hP]; exact cpiece_run ao cap W hn62 hw0 ha h1
  have P2 : Hid (∀ W, Below w.heap.size w W → Calls Try.prog 21 #[tbV T0 ao0 cap0, .float .f64 a1] W fun e w' => e = .returned (.tuple #[.int .i64 pi, .float .f64 px, .int .i64 pk]) ∧ Below W.heap.size W w') := Lib.hid fun W hb => by rw [← hP]; exact rpiece_run ao0 cap0 W hn62 hw0 hU0 (ha0.on hb) h1
  have R1 : Hid (∀ W ao cap, TbAt W ao T0.rows → Calls Try.prog 23 #[tbV T0 ao cap, .float .f64 a1] W fun e w' => e = .returned (vecE RA.1 RA.2) ∧ Below W.heap.size W w') := Lib.hid fun W ao cap ha => by rw [hRA]; exact cat_run ao cap W hn62 hw0 ha h1
  have R2 : Hid (∀ W, Below w.heap.size w W → Calls Try.prog 24 #[tbV T0 ao0 cap0, .float .f64 a1] W fun e w' => e = .returned (vecE RA.1 RA.2) ∧ Below W.heap.size W w') := Lib.hid fun W hb => by rw [hRA]; exact rat13_run ao0 cap0 W hn62 hw0 hU0 (ha0.on hb) h1
  have KP : Hid (∀ W ao cap, Below w.heap.size w W → TbAt W ao T0.rows → Calls Try.prog 26 #[tbV T0 ao cap, tbV T0 ao0 cap0] W fun e w' => e = .returned (.bool true) ∧ Below W.heap.size W w') := Lib.hid fun W ao cap hb ha => kept13_run ao ao0 cap cap0 W hn62 hl62 ha (ha0.on hb)
  obtain ⟨n, hn⟩ : ∃ n, n = T0.rows.length := ⟨_, rfl⟩
  clear hRA hVC hP hn62 hl62
  unfold tbV at *
  rw [← hn] at TR C1 C2 P1 P2 R1 R2 KP ⊢
  generalize hfr : T0.fr = fr at *
  generalize hst' : T0.st = st at *
  clear hfr hst' hn hc0 hm0 hn0 hw0 ha0 hS0 hU0 h1
  generalize T0.rows = RS at *
  obtain ⟨⟨p1, p2, p3⟩, kr⟩ := RA
  unfold vecE vecV at R1 R2
  dsimp only at *
  have hst := @fstore
  have SM := fun w => same_run px px rfl w
  have SV := Lib.hid (fun w => samevec_run p1 p2 p3 w)
  have K0 := kv1 w 34 [.float .f64 fr, .float .f64 st, .slice ao0 n cap0]
  simp only [objV] at K0
  replace K0 := Lib.hid K0
  go_enter Try.func4, Try.ntmps4
  go_upto_region 1 with fail
  have K := K0.out
  clear K0
  generalize w.alloc _ = wr at *
  generalize hds : ([some 14, some 15, some 16, some 17, some 18, some 19, some 20, some 21, some 22] : List (Option Tmp)) = ds
  have hap : apartL ds = true := by rw [← hds]; decide
  replace hds := hds.symm
  refine wp_region_det (by kernel_rfl) ds (by rw [hds]; rfl) hap (by decide +kernel) [.bool true, .bool false, .bool false, .agg #[.float .f64 fr, .float .f64 st, .slice ao0 n cap0], .int .i64 VC, .agg #[.float .f64 fr, .float .f64 st, .slice ao0 n cap0], .int .i64 VC, .bool false, .bool false] rfl (fun W => Kv w [some (w.heap.size, [.float .f64 fr, .float .f64 st, .slice ao0 n cap0])] W) K.draws ?step ?fin
  case step =>
    intro L W i o ho hd hS
    have hi : i < 9 := (Array.getElem?_eq_some_iff.1 ho).1
    have : i = 0 ∨ i = 1 ∨ i = 2 ∨ i = 3 ∨ i = 4 ∨ i = 5 ∨ i = 6 ∨ i = 7 ∨ i = 8 := by omega
    rcases this with rfl | rfl | rfl | rfl | rfl | rfl | rfl | rfl | rfl
    · -- 0
      obtain rfl := Option.some.inj ho
      refine .call rfl 9 #[] ?_ ((AW.out W).mono fun e w' h => ⟨h.1, hS.on h.2⟩)
      generalize hA : (puts ds L _).eval = ρ
      have hc : ∀ v, ρ (.const v) = v := fun v => by rw [← hA]; rfl
      have hg : ∀ g, ρ (.func g) = .func (.func g) #[] #[] := fun v => by rw [← hA]; rfl
      have hf := Try.func9
      unfold execOp
      go_simp
    · -- 1
      obtain rfl := Option.some.inj ho
      refine .value rfl W ?_ hS
      generalize hA : (puts ds L _).eval = ρ
      have hc : ∀ v, ρ (.const v) = v := fun v => by rw [← hA]; rfl
      have hg : ∀ g, ρ (.func g) = .func (.func g) #[] #[] := fun v => by rw [← hA]; rfl
      have h0 : ρ (.tmp 14) = .bool true := by rw [← hA]; exact puts_get 0 ds L _ hap (by rw [hds]; rfl) (hd 0 (by decide +kernel)) (show 14 < 78 by decide)
      clear hA hd ho
      unfold execOp
      go_simp
    · -- 2
      obtain rfl := Option.some.inj ho
      refine .value rfl W ?_ hS
      generalize hA : (puts ds L _).eval = ρ
      have hc : ∀ v, ρ (.const v) = v := fun v => by rw [← hA]; rfl
      have hg : ∀ g, ρ (.func g) = .func (.func g) #[] #[] := fun v => by rw [← hA]; rfl
      have h0 : ρ (.tmp 15) = .bool false := by rw [← hA]; exact puts_get 1 ds L _ hap (by rw [hds]; rfl) (hd 1 (by decide +kernel)) (show 15 < 78 by decide)
      clear hA hd ho
      unfold execOp
      go_simp
    · -- 3
      obtain rfl := Option.some.inj ho
      refine Comes.guarded (j := 2) (t := 16) (want := false) (b := false) (by rw [hds]; rfl) hap rfl (by rw [hds]; rfl) (hd 2 (by decide +kernel)) (show 16 < 78 by decide) (fun _ hw => ?_) (fun e => absurd rfl e)
      have b := hS.at_ 0 rfl
      have c0 := b.at_ 0 _ rfl
      have c1 := b.at_ 1 _ rfl
      have c2 := b.at_ 2 _ rfl
      clear b
      refine .value hw W ?_ hS
      generalize hA : (puts ds L _).eval = ρ
      have hc : ∀ v, ρ (.const v) = v := fun v => by rw [← hA]; rfl
      have hg : ∀ g, ρ (.func g) = .func (.func g) #[] #[] := fun v => by rw [← hA]; rfl
      have h0 : ρ (.tmp 2) = .pointer (some ⟨w.heap.size, 0, none⟩) := by rw [← hA]; exact (puts_old ds L _ (by rw [hds]; decide)).trans rfl
      clear hA hd ho
      unfold execOp
      go_simp
    · -- 4
      obtain rfl := Option.some.inj ho
      refine Comes.guarded (j := 2) (t := 16) (want := false) (b := false) (by rw [hds]; rfl) hap rfl (by rw [hds]; rfl) (hd 2 (by decide +kernel)) (show 16 < 78 by decide) (fun _ hw => ?_) (fun e => absurd rfl e)
      refine .call hw 17 #[.agg #[.float .f64 fr, .float .f64 st, .slice ao0 n cap0]] ?_ ((C1.out W hS.old).mono fun e w' h => ⟨h.1, hS.on h.2⟩)
      generalize hA : (puts ds L _).eval = ρ
      have hc : ∀ v, ρ (.const v) = v := fun v => by rw [← hA]; rfl
      have hg : ∀ g, ρ (.func g) = .func (.func g) #[] #[] := fun v => by rw [← hA]; rfl
      have h0 : ρ (.tmp 17) = .agg #[.float .f64 fr, .float .f64 st, .slice ao0 n cap0] := by rw [← hA]; exact puts_get 3 ds L _ hap (by rw [hds]; rfl) (hd 3 (by decide +kernel)) (show 17 < 78 by decide)
      have hf := Try.func17
      unfold execOp
      go_simp
    · -- 5
      obtain rfl := Option.some.inj ho
      refine Comes.guarded (j := 2) (t := 16) (want := false) (b := false) (by rw [hds]; rfl) hap rfl (by rw [hds]; rfl) (hd 2 (by decide +kernel)) (show 16 < 78 by decide) (fun _ hw => ?_) (fun e => absurd rfl e)
      have b := hS.at_ 0 rfl
      have c0 := b.at_ 0 _ rfl
      have c1 := b.at_ 1 _ rfl
      have c2 := b.at_ 2 _ rfl
      clear b
      refine .value hw W ?_ hS
      generalize hA : (puts ds L _).eval = ρ
      have hc : ∀ v, ρ (.const v) = v := fun v => by rw [← hA]; rfl
      have hg : ∀ g, ρ (.func g) = .func (.func g) #[] #[] := fun v => by rw [← hA]; rfl
      have h0 : ρ (.tmp 2) = .pointer (some ⟨w.heap.size, 0, none⟩) := by rw [← hA]; exact (puts_old ds L _ (by rw [hds]; decide)).trans rfl
      clear hA hd ho
      unfold execOp
      go_simp
    · -- 6
      obtain rfl := Option.some.inj ho
      refine Comes.guarded (j := 2) (t := 16) (want := false) (b := false) (by rw [hds]; rfl) hap rfl (by rw [hds]; rfl) (hd 2 (by decide +kernel)) (show 16 < 78 by decide) (fun _ hw => ?_) (fun e => absurd rfl e)
      refine .call hw 18 #[.agg #[.float .f64 fr, .float .f64 st, .slice ao0 n cap0]] ?_ ((C2.out W hS.old).mono fun e w' h => ⟨h.1, hS.on h.2⟩)
      generalize hA : (puts ds L _).eval = ρ
      have hc : ∀ v, ρ (.const v) = v := fun v => by rw [← hA]; rfl
      have hg : ∀ g, ρ (.func g) = .func (.func g) #[] #[] := fun v => by rw [← hA]; rfl
      have h0 : ρ (.tmp 19) = .agg #[.float .f64 fr, .float .f64 st, .slice ao0 n cap0] := by rw [← hA]; exact puts_get 5 ds L _ hap (by rw [hds]; rfl) (hd 5 (by decide +kernel)) (show 19 < 78 by decide)
      have hf := Try.func18
      unfold execOp
      go_simp
    · -- 7
      obtain rfl := Option.some.inj ho
      refine Comes.guarded (j := 2) (t := 16) (want := false) (b := false) (by rw [hds]; rfl) hap rfl (by rw [hds]; rfl) (hd 2 (by decide +kernel)) (show 16 < 78 by decide) (fun _ hw => ?_) (fun e => absurd rfl e)
      refine .value hw W ?_ hS
      generalize hA : (puts ds L _).eval = ρ
      have hc : ∀ v, ρ (.const v) = v := fun v => by rw [← hA]; rfl
      have hg : ∀ g, ρ (.func g) = .func (.func g) #[] #[] := fun v => by rw [← hA]; rfl
      have h0 : ρ (.tmp 18) = .int .i64 VC := by rw [← hA]; exact puts_get 4 ds L _ hap (by rw [hds]; rfl) (hd 4 (by decide +kernel)) (show 18 < 78 by decide)
      have h1 : ρ (.tmp 20) = .int .i64 VC := by rw [← hA]; exact puts_get 6 ds L _ hap (by rw [hds]; rfl) (hd 6 (by decide +kernel)) (show 20 < 78 by decide)
      clear hA hd ho
      unfold execOp
      go_simp
    · -- 8
      obtain rfl := Option.some.inj ho
      refine .value rfl W ?_ hS
      generalize hA : (puts ds L _).eval = ρ
      have hc : ∀ v, ρ (.const v) = v := fun v => by rw [← hA]; rfl
      have hg : ∀ g, ρ (.func g) = .func (.func g) #[] #[] := fun v => by rw [← hA]; rfl
      have h0 : ρ (.tmp 16) = .bool false := by rw [← hA]; exact puts_get 2 ds L _ hap (by rw [hds]; rfl) (hd 2 (by decide +kernel)) (show 16 < 78 by decide)
      have h1 : ρ (.tmp 21) = .bool false := by rw [← hA]; exact puts_get 7 ds L _ hap (by rw [hds]; rfl) (hd 7 (by decide +kernel)) (show 21 < 78 by decide)
      clear hA hd ho
      unfold execOp
      go_simp
  case fin =>
    intro W0 K
    rw [hds]
    clear hds hap ds C1 C2 AW
    simp only [List.map_cons, List.map_nil, puts, Act.put, List.setIfInBounds_toArray]
    have c0_0 := (K.at_ 0 rfl).at_ 0 _ rfl
    have c0_1 := (K.at_ 0 rfl).at_ 1 _ rfl
    have c0_2 := (K.at_ 0 rfl).at_ 2 _ rfl
    replace K := Lib.hid K
    go_wp2_with fail
    replace K := K.out
    refine (TR.out W0 K.old).mono ?_
    rintro _ v2 ⟨ao, cap, rfl, -, -, -, hta, hb'⟩
    clear c0_0 c0_1 c0_2 TR
    replace K := K.on hb'
    clear hb'
    replace K := K.new 34 [.float .f64 fr, .float .f64 st, .slice ao n cap]
    have TA := Lib.hid (hta.alloc (objV 34 [.float .f64 fr, .float .f64 st, .slice ao n cap]))
    simp only [objV, List.cons_append, List.nil_append] at K TA
    clear hta
    have c1_0 := (K.at_ 1 rfl).at_ 0 _ rfl
    have c1_1 := (K.at_ 1 rfl).at_ 1 _ rfl
    have c1_2 := (K.at_ 1 rfl).at_ 2 _ rfl
    replace K := Lib.hid K
    go_wp2_with fail
    replace K := K.out
    generalize v2.alloc _ = w2 at *
    generalize v2.heap.size = g1 at *
    refine (P1.out w2 ao cap TA.out).mono ?_
    rintro _ v3 ⟨rfl, hb'⟩
    clear c1_0 c1_1 c1_2 P1
    replace K := K.on hb'
    have TB := Lib.hid (TA.out.on hb')
    clear hb' TA
    have c0_0 := (K.at_ 0 rfl).at_ 0 _ rfl
    have c0_1 := (K.at_ 0 rfl).at_ 1 _ rfl
    have c0_2 := (K.at_ 0 rfl).at_ 2 _ rfl
    replace K := Lib.hid K
    go_wp2_with fail
    replace K := K.out
    refine (P2.out v3 K.old).mono ?_
    rintro _ v4 ⟨rfl, hb'⟩
    clear c0_0 c0_1 c0_2 P2
    replace K := K.on hb'
    have TC := Lib.hid (TB.out.on hb')
    clear hb' TB
    have c1_0 := (K.at_ 1 rfl).at_ 0 _ rfl
    have c1_1 := (K.at_ 1 rfl).at_ 1 _ rfl
    have c1_2 := (K.at_ 1 rfl).at_ 2 _ rfl
    replace K := Lib.hid K
    go_wp2_with (go_at_call 22; ((with_reducible refine (SM _).mono ?_); rintro e w' ⟨rfl, rfl⟩))
    replace K := K.out
    refine (R1.out v4 ao cap TC.out).mono ?_
    rintro _ v5 ⟨rfl, hb'⟩
    clear c1_0 c1_1 c1_2 R1 SM
    replace K := K.on hb'
    have TD' := Lib.hid (TC.out.on hb')
    clear hb' TC
    replace K := K.new 41 [.float .f64 p1, .float .f64 p2, .float .f64 p3]
    have TD := Lib.hid (TD'.out.alloc (objV 41 [.float .f64 p1, .float .f64 p2, .float .f64 p3]))
    simp only [objV, List.cons_append, List.nil_append] at K TD
    clear TD'
    have c0_0 := (K.at_ 0 rfl).at_ 0 _ rfl
    have c0_1 := (K.at_ 0 rfl).at_ 1 _ rfl
    have c0_2 := (K.at_ 0 rfl).at_ 2 _ rfl
    replace K := Lib.hid K
    go_wp2_with fail
    replace K := K.out
    generalize v5.alloc _ = w5 at *
    generalize v5.heap.size = g2 at *
    refine (R2.out w5 K.old).mono ?_
    rintro _ v6 ⟨rfl, hb'⟩
    clear c0_0 c0_1 c0_2 R2
    replace K := K.on hb'
    have TE' := Lib.hid (TD.out.on hb')
    clear hb' TD
    replace K := K.new 41 [.float .f64 p1, .float .f64 p2, .float .f64 p3]
    have TE := Lib.hid (TE'.out.alloc (objV 41 [.float .f64 p1, .float .f64 p2, .float .f64 p3]))
    simp only [objV, List.cons_append, List.nil_append] at K TE
    clear TE'
    have c2_0 := (K.at_ 2 rfl).at_ 0 _ rfl
    have c2_1 := (K.at_ 2 rfl).at_ 1 _ rfl
    have c2_2 := (K.at_ 2 rfl).at_ 2 _ rfl
    have c3_0 := (K.at_ 3 rfl).at_ 0 _ rfl
    have c3_1 := (K.at_ 3 rfl).at_ 1 _ rfl
    have c3_2 := (K.at_ 3 rfl).at_ 2 _ rfl
    replace K := Lib.hid K
    go_wp2_with fail
    replace K := K.out
    generalize v6.alloc _ = w6 at *
    generalize v6.heap.size = g3 at *
    refine (SV.out w6).mono ?_
    rintro _ v7 ⟨rfl, hb'⟩
    clear c2_0 c2_1 c2_2 c3_0 c3_1 c3_2 SV
    replace K := K.on hb'
    have TF := Lib.hid (TE.out.on hb')
    clear hb' TE
    have c0_0 := (K.at_ 0 rfl).at_ 0 _ rfl
    have c0_1 := (K.at_ 0 rfl).at_ 1 _ rfl
    have c0_2 := (K.at_ 0 rfl).at_ 2 _ rfl
    have c1_0 := (K.at_ 1 rfl).at_ 0 _ rfl
    have c1_1 := (K.at_ 1 rfl).at_ 1 _ rfl
    have c1_2 := (K.at_ 1 rfl).at_ 2 _ rfl
    replace KP := Lib.hid (KP.out v7 ao cap K.old TF.out)
    replace K := Lib.hid K
    go_wp2_with fail
    replace K := K.out
    refine KP.out.mono ?_
    rintro _ v8 ⟨rfl, hb'⟩
    clear c0_0 c0_1 c0_2 c1_0 c1_1 c1_2 KP TF
    replace K := K.on hb'
    clear hb'
    replace K := Lib.hid K
    go_wp2_with fail
    go_ret
    exact ⟨rfl, K.out.old⟩

set_option maxRecDepth 100000 in
theorem own : ownKnob Try.prog.godebug = none := by kernel_rfl
set_option maxRecDepth 100000 in
theorem laidOut : laidOutB Try.prog = true := by kernel_rfl
set_option maxRecDepth 100000 in
theorem lifted (os : Os) (started : os.Started) (H : Type) (enc : TypeId × Value → H) (F : Stop.Interp) :
    ReturnsInHanded {} Try.checked os 4 .any ((Rows.OpenSpec.upto Rows.chebTellsSpec).pre6 enc Try.prog Try.f4 Rows.chebTellsUptoRow.domain false) (((Rows.OpenSpec.upto Rows.chebTellsSpec).at F).post enc Try.prog Try.f4 false true false false) := by
  refine returnsInHanded_of_cond_sized (C := Try.checked) (s := (Rows.OpenSpec.upto Rows.chebTellsSpec)) (k := Rows.uptoSmall) rfl own started (by kernel_rfl) Try.func4
    (OpenSpec.witness (enc := enc) (C := Try.checked) (s := (Rows.OpenSpec.upto Rows.chebTellsSpec)) (k := Rows.uptoSmall) rfl false ⟨#[], #[.agg #[.float .f64 0, .float .f64 0, .slice none 0 0], .float .f64 0], []⟩ 8 (by kernel_rfl) (by kernel_rfl) (by kernel_rfl)
      (x := ([.agg [.lit (.float .f64 0), .lit (.float .f64 0), .nil], .lit (.float .f64 0)], [], [])) (by kernel_rfl) rfl (by kernel_rfl)) ?_
  intro W base args ds gs before hval0 hW _ hkk hsz0 _
  have hsz : (DataW.weightsEach Try.prog (Try.f4.params.toList ++ Rows.chebTellsSpec.plain.varTypes Try.prog) (ds ++ gs)).all (· ≤ reachBytes) = true := hsz0
  clear hsz0
  have hval : ∀ (j : Nat) t v, Try.f4.params[j]? = some t → args[j]? = some v → Value.okWide Try.prog W .any base t v := hval0
  have hW' := hW
  obtain ⟨p, q, hA0, hV, rfl, _, _⟩ := hW
  have hA : DataW.TrodAll enc Try.prog W 0 (fun _ => true) true Try.f4.params.toList args.toList ds p := hA0
  rw [Try.params4] at hA hval hsz
  obtain ⟨v0, vs0, d0, ds0, p0, q0, hargs, rfl, rfl, t0, r0⟩ := trodAll_cons hA
  obtain ⟨v1, vs1, d1, ds1, p1, q1, rfl, rfl, rfl, t1, r1⟩ := trodAll_cons r0
  obtain ⟨rfl, rfl, rfl⟩ := trodAll_nil r1
  obtain rfl : args = #[v0, v1] := by cases args; simp_all
  obtain ⟨rfl, rfl⟩ := trodVars_none hV
  simp only [List.append_nil] at hW'
  have tk0 := t0
  obtain ⟨T0, ao0, cap0, e0_0, e1_0, e2_0, rfl, hc0, hm0, hn0, hw0, ha0, hd0, hT0⟩ := open_tab (hval 0 34 v0 rfl rfl) t0
  subst hd0
  have hS0 : TbSz T0 := td_size hT0 (fun x hx => by
    have h := List.all_eq_true.1 hsz _ (DataW.weights_mem_each (j := 0) (t := 34) rfl rfl x (by simp only [DataW.weights, Try.underlying34]; exact DataW.weights_mem_each (j := 2) (t := 32) rfl rfl x hx))
    simpa using h)
  have hlt0 : ∀ x ∈ p0, x.block < W.heap.size := fun x hx => by have := hW'.lt x (by simp [hx]); simpa using this
  have hU0 : TbUp T0 := td_up hT0 (of_decide_eq_true hkk)
  obtain ⟨a1, rfl, rfl, rfl, w1⟩ := open_float Try.underlying30 (hval 1 30 v1 rfl rfl) t1
  clear hA0 hval0
  refine (walk W ao0 cap0 T0 hc0 hm0 hn0 hw0 ha0 hS0 hU0 a1 (wf64 w1)).mono fun e W' ⟨he, hb⟩ => ?_
  subst he
  refine ⟨_, rfl, _, _, _, [], _, [], hW', trodAll_cons_mk (shut_bool Try.underlying4 _) trodAll_mk0, (trodAll_cons_mk (Below.trod laidOut (by kernel_rfl) (of_decide_eq_true (by kernel_rfl)) tk0 hb hlt0) (trodAll_cons_mk (shut_float Try.underlying30 w1) trodAll_mk0)), rfl, hb.frame _, fun h => by cases h⟩

set_option maxRecDepth 100000 in
theorem over : Rows.chebTellsUptoRow.holds Try.pinned (Rows.OpenSpec.upto Rows.chebTellsSpec) :=
  OpenClaim.holds_of_cond 4 Try.f4 rfl rfl rfl rfl rfl rfl rfl ⟨rfl, rfl, rfl, rfl, rfl⟩ rfl rfl rfl rfl rfl (by kernel_rfl) Try.func4 (by kernel_rfl)
    (of_decide_eq_true (by kernel_rfl)) (by unfold Func.isWrapper; first | (rw [if_pos (by decide +kernel)]; kernel_rfl) | (rw [if_neg (by decide +kernel)]; exact ⟨rfl, rfl⟩))
    (fun os started H enc _ F => lifted os started H enc F)

theorem proved : Rows.ChebTellsUptoSaid :=
  over
end Go.Proofs.Ytnmadknpkhaolaa.chebTells
