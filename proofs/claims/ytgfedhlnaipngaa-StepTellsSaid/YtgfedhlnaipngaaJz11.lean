/- Proved here: what the texts Grk, Grl, Grs, Gru, Grw, Grv prove, one behind the other. -/
import Derived.Test.YtgfedhlnaipngaaJz10
import Derived.Test.YtgfedhlnaipngaaJz8

namespace Go.Proofs.Ytgfedhlnaipngaa
open Go.ChangeShapes Go.WideShapes Go.ChangeAt Go.RowKit Go.Deep Ieee.Own

theorem clR_hi {y : Nat} (h : V capW < V y) : V capW = clI cap32 (V y) := by
  rw [capW_ok.2] at h ⊢
  unfold clI
  rw [if_pos h]
theorem clR_lo {y : Nat} (h : V y < V ncapW) (h1 : ¬ V capW < V y) : V ncapW = clI cap32 (V y) := by
  rw [ncapW_ok.2] at h ⊢
  rw [capW_ok.2] at h1
  unfold clI
  rw [if_neg h1, if_pos h]
theorem clR_in {y : Nat} (h : ¬ V y < V ncapW) (h1 : ¬ V capW < V y) : V y = clI cap32 (V y) := by
  rw [ncapW_ok.2] at h
  rw [capW_ok.2] at h1
  unfold clI
  rw [if_neg h1, if_neg h]
theorem cap_apart : ¬ V capW < V ncapW := by
  have := cap_pos
  rw [capW_ok.2, ncapW_ok.2]
  omega
set_option maxHeartbeats 16000000 in
set_option maxRecDepth 100000 in
theorem rgpull_run {a b : Ma} {g : Nat} (hg : Gee g) (ha : Mid0 a) (hb : Mid0 b) (w : World) :
    Calls Try.prog 38 #[maV a, maV b, .float .f64 g] w fun e w' => e = .returned (i3V (pl3 g a b)) ∧ Below w.heap.size w w' := by
  have hd := df_cap ha hb
  have hm := mm_cap ha hb
  have CS := Lib.hid (fun w => (sqrt_any _ _ (root_ok hd).1 w).mono fun e w' q => (⟨q.1, q.2.symm⟩ : _ ∧ w' = w))
  have rm := Lib.hid (run_mul _ _ _ (prd_ok hd).1)
  have rq := Lib.hid (run_div _ _ _ (f_ok hg hm hd).1)
  have rd := Lib.hid (run_mul _ _ _ (drw_ok hg hm).1)
  have wm := Lib.hid (mm_wrap ha hb)
  have cm := Lib.hid (conv_i64 (a.m * b.m))
  have fd := Lib.hid (fd_ok hg hm hd)
  have wf := Lib.hid (fun k => (show IntKind.i64.wrap (b.x.get k - a.x.get k) = df a b k from IntWalk.i64_in _ (by have := hd k; unfold df at this; omega)))
  have rs := Lib.hid (fun k => run_mul _ _ _ (sq_pos (hd k)).1)
  have ra := Lib.hid (fun k (hk : k < 8) => run_add _ _ _ (lng_add hd hk))
  have er := Lib.hid (fun k => (show rndI (clI cap32 (V (mX (fW g (a.m * b.m) (df a b)) (dW (df a b k))))) = pl g a b k from rfl))
  unfold pl3 i3V T3.of
  dsimp only
  clear hg ha hb hd hm
  have K := kv4 w 34 34 32 52 (maC a) (maC b) (in3 ⟨0, 0, 0⟩) (fl3 (mixF (fun k => dW (df a b k)) 0))
  simp only [objV] at K
  have eA : maV a = .agg (maC a).toArray := rfl
  have eB : maV b = .agg (maC b).toArray := rfl
  rw [eA, eB]
  clear eA eB
  have ca := Lib.hid (fun k (hk : k < 3) => maC_x a hk)
  have cb := Lib.hid (fun k (hk : k < 3) => maC_x b hk)
  generalize pl g a b = pk at *
  generalize fW g (a.m * b.m) (df a b) = f at *
  generalize drwW g (a.m * b.m) = dg at *
  generalize prdW (df a b) = pr at *
  generalize rG (lngP (df a b) 3) = rt at *
  generalize df a b = d at *
  have hst := @fstore
  have hsi := @istore
  replace K := Lib.hid K
  go_enter Try.func38, Try.ntmps38
  go_wp2_with fail
  go_loopw [8, 9] (fun lv iv wr => ∃ k : Nat, k ≤ 3 ∧ iv = .int .i64 k ∧ lv = .float .f64 (lngP d k) ∧ Kv w [some (w.heap.size, maC a), some (w.heap.size + 1, maC b), some (w.heap.size + 1 + 1, in3 ⟨0, 0, 0⟩), some (w.heap.size + 1 + 1 + 1, fl3 (mixF (fun k => dW (d k)) k))] wr) (fun _ iv _ => 3 - (intOf iv).toNat)
  case atStart => exact ⟨0, by omega, rfl, rfl, K.out⟩
  case round =>
    obtain ⟨k, hk, rfl, rfl, C⟩ := hrel
    clear K
    by_cases hlt : k < 3
    · have c1 := (C.at_ 1 rfl).at_ (1 + k) _ (cb.out k hlt)
      have c0 := (C.at_ 0 rfl).at_ (1 + k) _ (ca.out k hlt)
      have c3 := (C.at_ 3 rfl).at_ k _ (fl3_get _ hlt)
      have f3 := (C.at_ 3 rfl).fr k _ (fl3_get _ hlt)
      have w1 := wf.out k
      have r1 := rs.out k
      have r2 := ra.out k (by omega)
      have P := (C.put 3 rfl k [.float .f64 (dW (d k))] (by simp [fl3]; omega)).draws
      simp only [setV, fl3_set _ hlt, putV] at P
      have P3 := (P.at_ 3 rfl).at_ k _ (fl3_get _ hlt)
      rw [mixF_new] at P3
      have cv := conv_i64 (d k)
      clear wf rm ra ca cb C rs CS rq rd wm cm fd er
      generalize lngP d k = l0 at *
      generalize hl1 : lngP d (k + 1) = l1 at *
      replace hl1 := Lib.hid hl1
      generalize mX (dW (d k)) (dW (d k)) = m1 at *
      generalize hD : dW (d k) = D at *
      generalize d k = dk at *
      clear hD
      replace P := Lib.hid P
      go_wp2_with fail
      go_still_tail 12, (by kernel_rfl)
      change wpList _ _ _ _ _ wr.drew
      go_wp2_with fail
      go_quiet (fail)
      replace P := Lib.hid (P.out.on (below_drewN (Below.refl _ _) nq))
      clear c0 c1 c3 f3 P3
      generalize World.drewN _ _ = wq at *
      go_wp2_with fail
      go_roundw
      case rel => exact ⟨k + 1, hlt, by go_num, congrArg (Value.float .f64) hl1.out.symm, P.out⟩
      case measure => simp [intOf]; omega
    · obtain rfl : k = 3 := by omega
      have m0 := (C.at_ 0 rfl).at_ 0 _ (maC_m a)
      have m1 := (C.at_ 1 rfl).at_ 0 _ (maC_m b)
      have r1 := rm.out
      have r2 := rq.out
      have r3 := rd.out
      have w1 := wm.out
      have c1 := cm.out
      clear wf ra ca cb rs rm rq rd wm cm
      generalize maC a = A at *
      generalize maC b = B at *
      generalize lngP d 3 = lg at *
      generalize dW (a.m * b.m) = mw at *
      generalize a.m = am at *
      generalize b.m = bm at *
      replace C := Lib.hid C
      go_wp2_with fail
      go_quiet (first | (go_at_call 32; with_reducible refine Calls.quiet_of_same (CS.out _)))
      have C2 := C.out.on (below_drewN (Below.refl _ _) nq)
      clear C m0 m1 r1 r2 r3 w1 c1 CS
      generalize World.drewN _ _ = wq at *
      generalize hn2 : wq.heap.size = n2 at *
      have K4 := C2.new 32 [.int .i64 0, .int .i64 0, .int .i64 0]
      rw [hn2] at K4
      simp only [objV, List.cons_append, List.nil_append] at K4
      replace K4 := Lib.hid K4
      clear C2
      go_wp2_with fail
      go_loopw [12] (fun iv wr => ∃ k : Nat, k ≤ 3 ∧ iv = .int .i64 k ∧ Kv w [some (w.heap.size, A), some (w.heap.size + 1, B), some (w.heap.size + 1 + 1, in3 ⟨0, 0, 0⟩), some (w.heap.size + 1 + 1 + 1, fl3 (mixF (fun k => dW (d k)) 3)), some (n2, in3 ((⟨0, 0, 0⟩ : T3).mix pk k))] wr) (fun iv _ => 3 - (intOf iv).toNat)
      case atStart => exact ⟨0, by omega, rfl, K4.out⟩
      case round =>
        obtain ⟨k, hk, rfl, C⟩ := hrel
        clear K4
        by_cases hlt : k < 3
        · have c3 := (C.at_ 3 rfl).at_ k _ (fl3_get _ hlt)
          have hm3 : mixF (fun k => dW (d k)) 3 k = dW (d k) := if_pos hlt
          rw [hm3] at c3
          have c4 := (C.at_ 4 rfl).at_ k _ (in3_get _ hlt)
          have f4 := (C.at_ 4 rfl).fr k _ (in3_get _ hlt)
          have P := C.put 4 rfl k [.int .i64 (pk k)] (by simp [in3]; omega)
          simp only [setV, in3_put _ hlt, mix_put _ _ hlt, putV] at P
          replace P := Lib.hid P
          obtain ⟨d1, d2, -⟩ := fd.out k
          have r1 := run_mul _ _ _ d1
          have e1 := gt_words d2 capW_ok.1
          have e2 := lt_words d2 ncapW_ok.1
          have e3 := lt_words capW_ok.1 ncapW_ok.1
          rw [decide_eq_false cap_apart] at e3
          have er1 := er.out k
          have kk : ∀ x, FinW x → V x = clI cap32 (V (mX f (dW (d k)))) → ∀ w, Calls Try.prog 37 #[.float .f64 x] w fun e w' => e = .returned (.int .i64 (pk k)) ∧ w = w' := fun x hx hv w => by
            have := rground_run hx (by rw [hv]; exact clc_cap _) w
            rw [hv, er1] at this
            exact this
          clear C er fd hm3 er1 d1
          generalize dW (d k) = D at *
          by_cases h1 : V capW < V (mX f D)
          · have C5 := Lib.hid (kk _ capW_ok.1 (clR_hi h1))
            rw [decide_eq_true h1] at e1
            clear kk e2 d2 h1
            unfold capW ncapW at *
            generalize mX f D = y at *
            go_wp2_with (go_at_call 37; ((with_reducible refine (C5.out _).mono ?_); rintro e w' ⟨rfl, rfl⟩))
            go_roundw
            case rel =>
              refine ⟨_, _, _, _, _, _, _, _, _, _, _, _, _, _, _, _, _, _, _, ?_, rfl⟩
              exact ⟨k + 1, hlt, by go_num, P.out⟩
            case measure => simp [intOf]; omega
          · rw [decide_eq_false h1] at e1
            by_cases h2 : V (mX f D) < V ncapW
            · have C5 := Lib.hid (kk _ ncapW_ok.1 (clR_lo h2 h1))
              rw [decide_eq_true h2] at e2
              clear kk d2 h1 h2 e3
              unfold capW ncapW at *
              generalize mX f D = y at *
              go_wp2_with (go_at_call 37; ((with_reducible refine (C5.out _).mono ?_); rintro e w' ⟨rfl, rfl⟩))
              go_roundw
              case rel =>
                refine ⟨_, _, _, _, _, _, _, _, _, _, _, _, _, _, _, _, _, _, _, ?_, rfl⟩
                exact ⟨k + 1, hlt, by go_num, P.out⟩
              case measure => simp [intOf]; omega
            · have C5 := Lib.hid (kk _ d2 (clR_in h2 h1))
              rw [decide_eq_false h2] at e2
              clear kk d2 h1 h2 e3
              unfold capW ncapW at *
              generalize mX f D = y at *
              go_wp2_with (go_at_call 37; ((with_reducible refine (C5.out _).mono ?_); rintro e w' ⟨rfl, rfl⟩))
              go_roundw
              case rel =>
                refine ⟨_, _, _, _, _, _, _, _, _, _, _, _, _, _, _, _, _, _, _, ?_, rfl⟩
                exact ⟨k + 1, hlt, by go_num, P.out⟩
              case measure => simp [intOf]; omega
        · obtain rfl : k = 3 := by omega
          rw [mix_three] at C
          have c0 := (C.at_ 4 rfl).at_ 0 _ rfl
          have c1 := (C.at_ 4 rfl).at_ 1 _ rfl
          have c2 := (C.at_ 4 rfl).at_ 2 _ rfl
          have g0 := (C.at_ 2 rfl).at_ 0 _ rfl
          have g1 := (C.at_ 2 rfl).at_ 1 _ rfl
          have g2 := (C.at_ 2 rfl).at_ 2 _ rfl
          have f0 := (C.at_ 2 rfl).fr 0 _ rfl
          have f1 := (C.at_ 2 rfl).fr 1 _ rfl
          have f2 := (C.at_ 2 rfl).fr 2 _ rfl
          have P := C.put 2 rfl 0 [.int .i64 (pk 0), .int .i64 (pk 1), .int .i64 (pk 2)] (by simp [in3])
          simp only [putV, Nat.zero_add, Nat.reduceAdd] at P
          replace P := Lib.hid P
          unfold T3.of at c0 c1 c2
          clear C er fd
          go_wp2_with fail
          replace P := P.out
          (try simp only [Exit.inBlock, Exit.then])
          refine bodyPost_ret (v := .agg #[.int .i64 (pk 0), .int .i64 (pk 1), .int .i64 (pk 2)]) ?_ rfl ⟨rfl, P.old⟩
          have q0 := (P.at_ 2 rfl).at_ 0 _ rfl
          have q1 := (P.at_ 2 rfl).at_ 1 _ rfl
          have q2 := (P.at_ 2 rfl).at_ 2 _ rfl
          rw [results_cell1 rfl]; go_simp
end Go.Proofs.Ytgfedhlnaipngaa

namespace Go.Proofs.Ytgfedhlnaipngaa
open Go.ChangeShapes Go.WideShapes Go.ChangeAt Go.RowKit Go.Deep Ieee.Own

set_option maxHeartbeats 16000000 in
set_option maxRecDepth 100000 in
theorem rgkick_run {h : Int} (hh : h = 1 ∨ h = -1) {l : List Ma} {g n cap gw : Nat} {w : World} (hg : Gee gw) (hn : n = l.length) (h8 : n ≤ 8) (hl : ∀ a ∈ l, Mid a) (O : OwM g l w) :
    Calls Try.prog 28 #[.slice (some ⟨g, 0, none⟩) n cap, .float .f64 gw, .int .i64 h] w fun e w' => e = .returned (.tuple #[]) ∧ Below g w w' ∧ OwM g (kck gw h l) w' := by
  have hsi := @istore
  replace hn := Lib.hid hn
  replace hl := Lib.hid hl
  replace hh := Lib.hid hh
  replace hg := Lib.hid hg
  have h8' : (n : Int) ≤ 8 := by omega
  replace O := Lib.hid O
  go_enter Try.func28, Try.ntmps28
  go_wp2_with fail
  go_loopw [6] (fun iv wr => ∃ i : Nat, i ≤ n ∧ iv = .int .i64 i ∧ OwM g (kst gw h l (gR n i)) wr ∧ Below g w wr) (fun iv _ => n - (intOf iv).toNat)
  case atStart => exact ⟨0, Nat.zero_le _, rfl, by rw [hn.out, kR_start]; exact O.out, Below.refl _ _⟩
  case round =>
    obtain ⟨i, hi, rfl, C, hb⟩ := hrel
    clear O
    by_cases hlt : i < n
    · have hil : i < l.length := by have := hn.out; omega
      have hin : (i : Int) < (n : Int) := by omega
      rw [hn.out, kR_in hg.out hl.out, ← hn.out] at C
      replace C := Lib.hid C
      replace hb := Lib.hid hb
      have wi : IntKind.i64.wrap ((i : Int) + 1) = (i : Int) + 1 := IntWalk.i64_in _ (by omega)
      go_wp2_with fail
      go_loopw [7] (fun jv wx => ∃ j : Nat, i < j ∧ j ≤ n ∧ jv = .int .i64 j ∧ OwM g (kst gw h l (fR n i j)) wx ∧ Below g w wx) (fun jv _ => n - (intOf jv).toNat)
      case atStart => exact ⟨i + 1, by omega, hlt, by go_num, C.out, hb.out⟩
      case round =>
        obtain ⟨j, hj0, hj, rfl, X, hbx⟩ := hrel
        clear C hb wi
        by_cases hit : j < n
        · have hjl : j < l.length := by have := hn.out; omega
          have hjn : (j : Int) < (n : Int) := by omega
          have hij : (i : Int) < (j : Int) := by omega
          have hne : i ≠ j := by omega
          have oi := kst_ok (g := gw) hh.out (by have := hn.out; omega) hl.out (f := fR n i j) hil
          have oj := kst_ok (g := gw) hh.out (by have := hn.out; omega) hl.out (f := fR n i j) hjl
          have hLi : Hid (i < (kst gw h l (fR n i j)).length) := by show i < _; rw [kst_len]; exact hil
          have hLj : Hid (j < (kst gw h l (fR n i j)).length) := by show j < _; rw [kst_len]; exact hjl
          have nx : Hid (prL gw h (kst gw h l (fR n i j)) i j 3 = kst gw h l (fR n i (j + 1))) := by show _ = _; rw [hn.out]; exact kR_pair hg.out hl.out (by omega) hjl
          generalize hL : kst gw h l (fR n i j) = L at *
          clear hL
          have CP := Lib.hid (fun w => rgpull_run hg.out oi.1 oj.1 w)
          unfold i3V pl3 T3.of maV at CP
          dsimp only at CP
          replace X := Lib.hid X
          replace hbx := Lib.hid hbx
          replace oi := Lib.hid oi
          replace oj := Lib.hid oj
          go_upto_region 6 with fail
          have K := (Kv.nil wr).more
          simp only [List.nil_append] at K
          have farA : Hid (∀ W, Below wr.heap.size wr W → _) := Lib.hid fun W hW => (X.out.on hW).cells hLi.out
          have farB : Hid (∀ W, Below wr.heap.size wr W → _) := Lib.hid fun W hW => (X.out.on hW).cells hLj.out
          generalize ha : mAt L i = xa at *
          generalize hb : mAt L j = xb at *
          replace ha := Lib.hid ha
          replace hb := Lib.hid hb
          generalize hds : ([some 24, some 25, some 26, some 27, some 28, some 29, some 30, some 31, some 32, some 33, some 8, none] : List (Option Tmp)) = ds
          have hap : apartL ds = true := by rw [← hds]; decide
          replace hds := hds.symm
          refine wp_region_kv (fun hf => [some (hf 10, [.int .i64 (pl gw xa xb 0), .int .i64 (pl gw xa xb 1), .int .i64 (pl gw xa xb 2)])]) (fun hf => [some (.slice (some ⟨g, 0, none⟩) n cap), some (.int .i64 (i : Int)), some (.pointer (some ⟨g, i * 7, none⟩)), some (.agg #[.int .i64 xa.m, .int .i64 xa.x.a, .int .i64 xa.x.b, .int .i64 xa.x.c, .int .i64 xa.p.a, .int .i64 xa.p.b, .int .i64 xa.p.c]), some (.slice (some ⟨g, 0, none⟩) n cap), some (.int .i64 (j : Int)), some (.pointer (some ⟨g, j * 7, none⟩)), some (.agg #[.int .i64 xb.m, .int .i64 xb.x.a, .int .i64 xb.x.b, .int .i64 xb.x.c, .int .i64 xb.p.a, .int .i64 xb.p.b, .int .i64 xb.p.c]), some (.float .f64 gw), some (.agg #[.int .i64 (pl gw xa xb 0), .int .i64 (pl gw xa xb 1), .int .i64 (pl gw xa xb 2)]), some (ptrV (hf 10)), some (undef)]) [⟨10, 0, 32, [.int .i64 0, .int .i64 0, .int .i64 0]⟩] [⟨11, 0, 0, [.int .i64 (pl gw xa xb 0), .int .i64 (pl gw xa xb 1), .int .i64 (pl gw xa xb 2)]⟩] [.slice (some ⟨g, 0, none⟩) n cap, .int .i64 (i : Int), .pointer (some ⟨g, i * 7, none⟩), .agg #[.int .i64 xa.m, .int .i64 xa.x.a, .int .i64 xa.x.b, .int .i64 xa.x.c, .int .i64 xa.p.a, .int .i64 xa.p.b, .int .i64 xa.p.c], .slice (some ⟨g, 0, none⟩) n cap, .int .i64 (j : Int), .pointer (some ⟨g, j * 7, none⟩), .agg #[.int .i64 xb.m, .int .i64 xb.x.a, .int .i64 xb.x.b, .int .i64 xb.x.c, .int .i64 xb.p.a, .int .i64 xb.p.b, .int .i64 xb.p.c], .float .f64 gw, .agg #[.int .i64 (pl gw xa xb 0), .int .i64 (pl gw xa xb 1), .int .i64 (pl gw xa xb 2)], undef, undef] ds (by kernel_rfl) (by rw [hds]; rfl) hap (by decide +kernel) (by decide +kernel) K ?ha ?haj ?hai ?hsi ?hss ?hsa ?hsw ?htg ?hE2 ?hE3 ?hE4 ?hL1 ?hL2 ?hL3 ?alloc ?step ?store ?fin
          case ha => intro al hal; simp only [List.mem_cons, List.not_mem_nil, or_false] at hal; rcases hal with rfl <;> rfl
          case haj => intro al hal al' hal' e; simp only [List.mem_cons, List.not_mem_nil, or_false] at hal; rcases hal with rfl <;> (simp only [List.mem_cons, List.not_mem_nil, or_false] at hal'; rcases hal' with rfl) <;> first | rfl | (exfalso; revert e; simp)
          case hai => intro al hal; simp only [List.mem_cons, List.not_mem_nil, or_false] at hal; rcases hal with rfl <;> decide
          case hsi => intro st hst st' hst' e; simp only [List.mem_cons, List.not_mem_nil, or_false] at hst; rcases hst with rfl <;> (simp only [List.mem_cons, List.not_mem_nil, or_false] at hst'; rcases hst' with rfl) <;> first | rfl | (exfalso; revert e; simp)
          case hss =>
            intro st hst
            simp only [List.mem_cons, List.not_mem_nil, or_false] at hst; rcases hst with rfl
            · show 11 < 12; decide
          case hsa =>
            intro st hst al hal
            simp only [List.mem_cons, List.not_mem_nil, or_false] at hst; rcases hst with rfl
            · simp only [List.mem_cons, List.not_mem_nil, or_false] at hal; rcases hal with rfl
              · exact (show ¬ (11 = 10) by decide)
          case hsw =>
            intro st hst al hal e
            simp only [List.mem_cons, List.not_mem_nil, or_false] at hst; rcases hst with rfl
            · simp only [List.mem_cons, List.not_mem_nil, or_false] at hal; rcases hal with rfl
              · change waitsAt _ 11 10 = true; decide +kernel
          case htg =>
            intro st hst
            simp only [List.mem_cons, List.not_mem_nil, or_false] at hst; rcases hst with rfl
            · exact .inr ⟨_, List.mem_cons_self .., rfl, show 0 + 3 ≤ 3 by decide⟩
          case hE2 =>
            intro hf j h1 h2
            have n0 : 0 ≠ j := h1 _ (List.mem_cons_self ..)
            rcases j with _ | j
            · exact absurd rfl n0
            · rfl
          case hE3 =>
            intro hf st hst g us e
            simp only [List.mem_cons, List.not_mem_nil, or_false] at hst; rcases hst with rfl
            · simp at e
          case hE4 =>
            intro hf al hal
            simp only [List.mem_cons, List.not_mem_nil, or_false] at hal; rcases hal with rfl
            · refine ⟨fun st hst e => ?_, fun h => absurd rfl (h _ (List.mem_cons_self ..))⟩
              simp only [List.mem_cons, List.not_mem_nil, or_false] at hst; rcases hst with rfl
              · rfl
          case hL1 => intro hf; rfl
          case hL2 =>
            intro hf i hi hna
            have hi : i < 12 := hi
            have : i = 0 ∨ i = 1 ∨ i = 2 ∨ i = 3 ∨ i = 4 ∨ i = 5 ∨ i = 6 ∨ i = 7 ∨ i = 8 ∨ i = 9 ∨ i = 10 ∨ i = 11 := by omega
            rcases this with rfl | rfl | rfl | rfl | rfl | rfl | rfl | rfl | rfl | rfl | rfl | rfl
            · rfl
            · rfl
            · rfl
            · rfl
            · rfl
            · rfl
            · rfl
            · rfl
            · rfl
            · rfl
            · exact absurd rfl (hna _ (List.mem_cons_self ..))
            · rfl
          case hL3 => intro hf al hal; simp only [List.mem_cons, List.not_mem_nil, or_false] at hal; rcases hal with rfl <;> rfl
          case alloc =>
            intro al hal o ρ W ho
            simp only [List.mem_cons, List.not_mem_nil, or_false] at hal; rcases hal with rfl
            · obtain rfl := Option.some.inj ho; unfold execOp ptrV objV; go_simp
          case step =>
            intro L W i o ho hs ha hd hB hO
            have hi : i < 12 := (Array.getElem?_eq_some_iff.1 ho).1
            have : i = 0 ∨ i = 1 ∨ i = 2 ∨ i = 3 ∨ i = 4 ∨ i = 5 ∨ i = 6 ∨ i = 7 ∨ i = 8 ∨ i = 9 ∨ i = 10 ∨ i = 11 := by omega
            rcases this with rfl | rfl | rfl | rfl | rfl | rfl | rfl | rfl | rfl | rfl | rfl | rfl
            · -- 0
              obtain rfl := Option.some.inj ho
              refine .value W ?_ (Below.refl _ _)
              generalize hA : (puts ds L _).eval = ρ
              have hc : ∀ v, ρ (.const v) = v := fun v => by rw [← hA]; rfl
              have hg : ∀ g, ρ (.func g) = .func (.func g) #[] #[] := fun v => by rw [← hA]; rfl
              have h0 : ρ (.tmp 0) = .slice (some ⟨g, 0, none⟩) n cap := by rw [← hA]; exact (puts_old ds L _ (by rw [hds]; decide)).trans rfl
              clear hA hd hB ho hs ha hO
              unfold execOp
              go_simp
            · -- 1
              obtain rfl := Option.some.inj ho
              refine .value W ?_ (Below.refl _ _)
              generalize hA : (puts ds L _).eval = ρ
              have hc : ∀ v, ρ (.const v) = v := fun v => by rw [← hA]; rfl
              have hg : ∀ g, ρ (.func g) = .func (.func g) #[] #[] := fun v => by rw [← hA]; rfl
              have h0 : ρ (.tmp 6) = .int .i64 (i : Int) := by rw [← hA]; exact (puts_old ds L _ (by rw [hds]; decide)).trans rfl
              clear hA hd hB ho hs ha hO
              unfold execOp
              go_simp
            · -- 2
              obtain rfl := Option.some.inj ho
              refine .value W ?_ (Below.refl _ _)
              generalize hA : (puts ds L _).eval = ρ
              have hc : ∀ v, ρ (.const v) = v := fun v => by rw [← hA]; rfl
              have hg : ∀ g, ρ (.func g) = .func (.func g) #[] #[] := fun v => by rw [← hA]; rfl
              have h0 : ρ (.tmp 24) = .slice (some ⟨g, 0, none⟩) n cap := by rw [← hA]; exact puts_get 0 ds L _ hap (by rw [hds]; rfl) (hd 0 (by decide +kernel) (by intro al hal; simp only [List.mem_cons, List.not_mem_nil, or_false] at hal; rcases hal with rfl <;> decide)) (show 24 < 70 by decide)
              have h1 : ρ (.tmp 25) = .int .i64 (i : Int) := by rw [← hA]; exact puts_get 1 ds L _ hap (by rw [hds]; rfl) (hd 1 (by decide +kernel) (by intro al hal; simp only [List.mem_cons, List.not_mem_nil, or_false] at hal; rcases hal with rfl <;> decide)) (show 25 < 70 by decide)
              clear hA hd hB ho hs ha hO
              unfold execOp
              go_simp
            · -- 3
              obtain rfl := Option.some.inj ho
              obtain ⟨d0, d1, d2, d3, d4, d5, d6⟩ := farA.out W hO
              refine .value W ?_ (Below.refl _ _)
              generalize hA : (puts ds L _).eval = ρ
              have hc : ∀ v, ρ (.const v) = v := fun v => by rw [← hA]; rfl
              have hg : ∀ g, ρ (.func g) = .func (.func g) #[] #[] := fun v => by rw [← hA]; rfl
              have h0 : ρ (.tmp 26) = .pointer (some ⟨g, i * 7, none⟩) := by rw [← hA]; exact puts_get 2 ds L _ hap (by rw [hds]; rfl) (hd 2 (by decide +kernel) (by intro al hal; simp only [List.mem_cons, List.not_mem_nil, or_false] at hal; rcases hal with rfl <;> decide)) (show 26 < 70 by decide)
              clear hA hd hB ho hs ha hO
              unfold execOp
              go_simp
            · -- 4
              obtain rfl := Option.some.inj ho
              refine .value W ?_ (Below.refl _ _)
              generalize hA : (puts ds L _).eval = ρ
              have hc : ∀ v, ρ (.const v) = v := fun v => by rw [← hA]; rfl
              have hg : ∀ g, ρ (.func g) = .func (.func g) #[] #[] := fun v => by rw [← hA]; rfl
              have h0 : ρ (.tmp 0) = .slice (some ⟨g, 0, none⟩) n cap := by rw [← hA]; exact (puts_old ds L _ (by rw [hds]; decide)).trans rfl
              clear hA hd hB ho hs ha hO
              unfold execOp
              go_simp
            · -- 5
              obtain rfl := Option.some.inj ho
              refine .value W ?_ (Below.refl _ _)
              generalize hA : (puts ds L _).eval = ρ
              have hc : ∀ v, ρ (.const v) = v := fun v => by rw [← hA]; rfl
              have hg : ∀ g, ρ (.func g) = .func (.func g) #[] #[] := fun v => by rw [← hA]; rfl
              have h0 : ρ (.tmp 7) = .int .i64 (j : Int) := by rw [← hA]; exact (puts_old ds L _ (by rw [hds]; decide)).trans rfl
              clear hA hd hB ho hs ha hO
              unfold execOp
              go_simp
            · -- 6
              obtain rfl := Option.some.inj ho
              refine .value W ?_ (Below.refl _ _)
              generalize hA : (puts ds L _).eval = ρ
              have hc : ∀ v, ρ (.const v) = v := fun v => by rw [← hA]; rfl
              have hg : ∀ g, ρ (.func g) = .func (.func g) #[] #[] := fun v => by rw [← hA]; rfl
              have h0 : ρ (.tmp 28) = .slice (some ⟨g, 0, none⟩) n cap := by rw [← hA]; exact puts_get 4 ds L _ hap (by rw [hds]; rfl) (hd 4 (by decide +kernel) (by intro al hal; simp only [List.mem_cons, List.not_mem_nil, or_false] at hal; rcases hal with rfl <;> decide)) (show 28 < 70 by decide)
              have h1 : ρ (.tmp 29) = .int .i64 (j : Int) := by rw [← hA]; exact puts_get 5 ds L _ hap (by rw [hds]; rfl) (hd 5 (by decide +kernel) (by intro al hal; simp only [List.mem_cons, List.not_mem_nil, or_false] at hal; rcases hal with rfl <;> decide)) (show 29 < 70 by decide)
              clear hA hd hB ho hs ha hO
              unfold execOp
              go_simp
            · -- 7
              obtain rfl := Option.some.inj ho
              obtain ⟨d0, d1, d2, d3, d4, d5, d6⟩ := farB.out W hO
              refine .value W ?_ (Below.refl _ _)
              generalize hA : (puts ds L _).eval = ρ
              have hc : ∀ v, ρ (.const v) = v := fun v => by rw [← hA]; rfl
              have hg : ∀ g, ρ (.func g) = .func (.func g) #[] #[] := fun v => by rw [← hA]; rfl
              have h0 : ρ (.tmp 30) = .pointer (some ⟨g, j * 7, none⟩) := by rw [← hA]; exact puts_get 6 ds L _ hap (by rw [hds]; rfl) (hd 6 (by decide +kernel) (by intro al hal; simp only [List.mem_cons, List.not_mem_nil, or_false] at hal; rcases hal with rfl <;> decide)) (show 30 < 70 by decide)
              clear hA hd hB ho hs ha hO
              unfold execOp
              go_simp
            · -- 8
              obtain rfl := Option.some.inj ho
              refine .value W ?_ (Below.refl _ _)
              generalize hA : (puts ds L _).eval = ρ
              have hc : ∀ v, ρ (.const v) = v := fun v => by rw [← hA]; rfl
              have hg : ∀ g, ρ (.func g) = .func (.func g) #[] #[] := fun v => by rw [← hA]; rfl
              have h0 : ρ (.tmp 1) = .float .f64 gw := by rw [← hA]; exact (puts_old ds L _ (by rw [hds]; decide)).trans rfl
              clear hA hd hB ho hs ha hO
              unfold execOp
              go_simp
            · -- 9
              obtain rfl := Option.some.inj ho
              refine .call 38 #[.agg #[.int .i64 xa.m, .int .i64 xa.x.a, .int .i64 xa.x.b, .int .i64 xa.x.c, .int .i64 xa.p.a, .int .i64 xa.p.b, .int .i64 xa.p.c], .agg #[.int .i64 xb.m, .int .i64 xb.x.a, .int .i64 xb.x.b, .int .i64 xb.x.c, .int .i64 xb.p.a, .int .i64 xb.p.b, .int .i64 xb.p.c], .float .f64 gw] ?_ ((CP.out W).mono fun e w1 q => ⟨q.1, q.2.mono (Nat.le_refl _)⟩)
              generalize hA : (puts ds L _).eval = ρ
              have hc : ∀ v, ρ (.const v) = v := fun v => by rw [← hA]; rfl
              have hg : ∀ g, ρ (.func g) = .func (.func g) #[] #[] := fun v => by rw [← hA]; rfl
              have h0 : ρ (.tmp 27) = .agg #[.int .i64 xa.m, .int .i64 xa.x.a, .int .i64 xa.x.b, .int .i64 xa.x.c, .int .i64 xa.p.a, .int .i64 xa.p.b, .int .i64 xa.p.c] := by rw [← hA]; exact puts_get 3 ds L _ hap (by rw [hds]; rfl) (hd 3 (by decide +kernel) (by intro al hal; simp only [List.mem_cons, List.not_mem_nil, or_false] at hal; rcases hal with rfl <;> decide)) (show 27 < 70 by decide)
              have h1 : ρ (.tmp 31) = .agg #[.int .i64 xb.m, .int .i64 xb.x.a, .int .i64 xb.x.b, .int .i64 xb.x.c, .int .i64 xb.p.a, .int .i64 xb.p.b, .int .i64 xb.p.c] := by rw [← hA]; exact puts_get 7 ds L _ hap (by rw [hds]; rfl) (hd 7 (by decide +kernel) (by intro al hal; simp only [List.mem_cons, List.not_mem_nil, or_false] at hal; rcases hal with rfl <;> decide)) (show 31 < 70 by decide)
              have h2 : ρ (.tmp 32) = .float .f64 gw := by rw [← hA]; exact puts_get 8 ds L _ hap (by rw [hds]; rfl) (hd 8 (by decide +kernel) (by intro al hal; simp only [List.mem_cons, List.not_mem_nil, or_false] at hal; rcases hal with rfl <;> decide)) (show 32 < 70 by decide)
              have hf := Try.func38
              unfold execOp
              go_simp
            · -- 10
              exact absurd rfl (ha _ (List.mem_cons_self ..))
            · -- 11
              exact absurd rfl (hs _ (List.mem_cons_self ..))
          case store =>
            intro st hst L W o h us ho hd hal hC b
            simp only [List.mem_cons, List.not_mem_nil, or_false] at hst; rcases hst with rfl
            · dsimp only at ho hd hal hC b ⊢
              obtain rfl := Option.some.inj ho
              obtain ⟨hl, rfl⟩ := hal _ (List.mem_cons_self ..) rfl
              have c0 := b.at_ 0 _ rfl
              have f0 := b.fr 0 _ rfl
              have c1 := b.at_ 1 _ rfl
              have f1 := b.fr 1 _ rfl
              have c2 := b.at_ 2 _ rfl
              have f2 := b.fr 2 _ rfl
              refine ⟨?_, rfl⟩
              generalize hA : (puts ds L _).eval = ρ
              have h0 : ρ (.tmp 8) = .pointer (some ⟨h, 0, none⟩) := by rw [← hA]; exact puts_get 10 ds L _ hap (by rw [hds]; rfl) hl (show 8 < 70 by decide)
              have h1 : ρ (.tmp 33) = .agg #[.int .i64 (pl gw xa xb 0), .int .i64 (pl gw xa xb 1), .int .i64 (pl gw xa xb 2)] := by rw [← hA]; exact puts_get 9 ds L _ hap (by rw [hds]; rfl) (hd 9 (by decide +kernel) (by intro al hal; simp only [List.mem_cons, List.not_mem_nil, or_false] at hal; rcases hal with rfl <;> decide)) (show 33 < 70 by decide)
              have hst' := @istore
              clear hA hd b ho hal hC
              simp only [putV]
              unfold execOp
              go_simp
          case fin =>
            intro hf W0 K
            rw [hds]
            clear hds hap ds
            (try dsimp only at K)
            generalize hf 10 = gp at *
            (try unfold ptrV)
            simp only [List.set_cons_zero, List.set_cons_succ, puts, Act.put, List.setIfInBounds_toArray]
            have Y := Lib.hid (X.out.on K.old)
            have Z : Hid (BV W0 gp (in3 (T3.of (pl gw xa xb)))) := K.at_ 0 rfl
            have hgp : Hid (g ≠ gp) := by
              have q1 := (K.blk 0 _ _ rfl).1
              have q2 := X.out.lt
              show g ≠ gp
              omega
            have hb0 := Lib.hid (hbx.out.trans (K.old.mono (Nat.le_of_lt X.out.lt)))
            clear K X hbx farA farB CP
            go_wp2_with fail
            go_loopw [9] (fun kv wx => ∃ k : Nat, k ≤ 3 ∧ kv = .int .i64 k ∧ OwM g (prL gw h L i j k) wx ∧ BV wx gp (in3 (T3.of (pl gw xa xb))) ∧ Below g w wx) (fun kv _ => 3 - (intOf kv).toNat)
            case atStart => exact ⟨0, by omega, rfl, by rw [prL_zero hLi.out hLj.out]; exact Y.out, Z.out, hb0.out⟩
            case round =>
              obtain ⟨k, hk, rfl, X, P, hbx⟩ := hrel
              clear Y Z hb0
              by_cases hkt : k < 3
              · have hk3 : (k : Int) < 3 := by omega
                have F1 := pair_first X hLi.out hLj.out hne hkt
                have S2 : ∀ W, OwM g (mdL gw h L i j k) W → _ := fun W hW => pair_second hW hLj.out hkt
                rw [ha.out, hb.out] at F1
                simp only [ha.out, hb.out] at S2
                have p1 := oi.out.2 k
                have p2 := oj.out.2 k
                have pc := pl_cap gw xa xb k
                have sg := sgn_cap (y := pl gw xa xb k) hh.out
                have w1 : IntKind.i64.wrap (h * pl gw xa xb k) = h * pl gw xa xb k := IntWalk.i64_in _ (by omega)
                have w2 : IntKind.i64.wrap (xa.p.get k + h * pl gw xa xb k) = xa.p.get k + h * pl gw xa xb k := IntWalk.i64_in _ (by omega)
                have w3 : IntKind.i64.wrap (xb.p.get k - h * pl gw xa xb k) = xb.p.get k - h * pl gw xa xb k := IntWalk.i64_in _ (by omega)
                obtain ⟨cA, fA, Y1⟩ := F1
                obtain ⟨cB, fB, Y2⟩ := S2 _ Y1
                have q1 := P.at_ k _ (in3_get _ hkt)
                rw [get_of _ hkt] at q1
                have P1 := (P.other1 (k := i * 7 + 4 + k) hgp.out.symm (.int .i64 (xa.p.get k + h * pl gw xa xb k))).on (Below.refl _ _).drew
                have q2 := P1.at_ k _ (in3_get _ hkt)
                rw [get_of _ hkt] at q2
                have P2 := Lib.hid ((P1.other1 (k := j * 7 + 4 + k) hgp.out.symm (.int .i64 (xb.p.get k - h * pl gw xa xb k))).on (Below.refl _ _).drew)
                have hb2 := Lib.hid ((((hbx.setCell (p := ⟨g, i * 7 + 4 + k, none⟩) (Nat.le_refl g) (.int .i64 (xa.p.get k + h * pl gw xa xb k))).drew).setCell (p := ⟨g, j * 7 + 4 + k, none⟩) (Nat.le_refl g) (.int .i64 (xb.p.get k - h * pl gw xa xb k))).drew)
                replace Y2 := Lib.hid Y2
                clear S2 p1 p2 pc sg P P1 hbx X Y1 ha hb oi oj
                generalize pl gw xa xb k = pk at *
                generalize xa.p.get k = ak at *
                generalize xb.p.get k = bk at *
                go_wp2_with fail
                go_still_tail 16, (by kernel_rfl)
                change wpList _ _ _ _ _ wr.drew
                go_wp2_with fail
                generalize hw2 : (World.setCell _ _ _).drew = w2 at *
                go_still_tail 16, (by kernel_rfl)
                change wpList _ _ _ _ _ w2.drew
                go_wp2_with fail
                go_roundw
                case rel => exact ⟨k + 1, hkt, by go_num, Y2.out, P2.out, hb2.out⟩
                case measure => simp [intOf]; omega
              · obtain rfl : k = 3 := by omega
                rw [nx.out] at X
                replace X := Lib.hid X
                replace hbx := Lib.hid hbx
                clear P
                go_wp2_with fail
                go_roundw
                case rel => exact ⟨j + 1, by omega, hit, by go_num, X.out, hbx.out⟩
                case measure => simp [intOf]; omega
        · obtain rfl : j = n := by omega
          rw [hn.out, kR_next, ← hn.out] at X
          replace X := Lib.hid X
          replace hbx := Lib.hid hbx
          go_wp2_with fail
          go_roundw
          case rel => exact ⟨i + 1, hlt, by go_num, X.out, hbx.out⟩
          case measure => simp [intOf]; omega
    · obtain rfl : i = n := by omega
      have X : OwM g (kck gw h l) wr := by
        rw [← kR_end, ← hn.out]
        exact C
      replace X := Lib.hid X
      replace hb := Lib.hid hb
      clear C hl
      go_wp2_with fail
      refine bodyPost_end (results_none rfl _ _ _) rfl ?_
      exact ⟨rfl, hb.out, X.out⟩
end Go.Proofs.Ytgfedhlnaipngaa

namespace Go.Proofs.Ytgfedhlnaipngaa
open Go.ChangeShapes Go.WideShapes Go.ChangeAt Go.RowKit Go.Deep Ieee.Own

theorem okB_m {a : Ma} (h : ¬ (1 ≤ a.m ∧ a.m ≤ 1048576)) : okB a = false := by
  cases e : okB a with
  | false => rfl
  | true => exact absurd ⟨(okB_iff.1 e).m1, (okB_iff.1 e).m2⟩ h
theorem okB_all {a : Ma} (h1 : 1 ≤ a.m) (h2 : a.m ≤ 1048576) (h : ∀ k, k < 3 → preB a k = true) : okB a = true := by
  rw [okB_yes h, decide_eq_true h1, decide_eq_true h2]; rfl
theorem preB_bad {a : Ma} {k : Nat} (h : ¬ (-1099511627776 ≤ a.x.get k ∧ a.x.get k ≤ 1099511627776 ∧ -1125899906842624 ≤ a.p.get k ∧ a.p.get k ≤ 1125899906842624)) : preB a k = false := by
  unfold preB wth
  simp only [Bool.and_eq_false_iff, decide_eq_false_iff_not]
  omega
theorem preB_good {a : Ma} {k : Nat} (h : -1099511627776 ≤ a.x.get k ∧ a.x.get k ≤ 1099511627776 ∧ -1125899906842624 ≤ a.p.get k ∧ a.p.get k ≤ 1125899906842624) : preB a k = true := by
  unfold preB wth
  simp only [Bool.and_eq_true, decide_eq_true_eq]
  omega
theorem MAt.row {w : World} {ao : Option Addr} {L : List Ma} (h : MAt w ao L) {j : Nat} (hj : j < L.length) :
    ∃ b o, ao = some ⟨b, o, none⟩ ∧ b < w.heap.size ∧ w.cell? ⟨b, o + j * 7, none⟩ = some (.int .i64 (mAt L j).m) ∧ (∀ k, k < 3 → w.cell? ⟨b, o + j * 7 + 1 + k, none⟩ = some (.int .i64 ((mAt L j).x.get k))) ∧ ∀ k, k < 3 → w.cell? ⟨b, o + j * 7 + 4 + k, none⟩ = some (.int .i64 ((mAt L j).p.get k)) := by
  obtain ⟨b, o, e, hb, hc⟩ := h j _ (ma_get hj)
  exact ⟨b, o, e, hb, hc 0 _ rfl, fun k hk => by rw [Nat.add_assoc]; exact hc (1 + k) _ (maC_x _ hk), fun k hk => by rw [Nat.add_assoc]; exact hc (4 + k) _ (maC_p _ hk)⟩
set_option maxHeartbeats 16000000 in
set_option maxRecDepth 100000 in
theorem rgcheck_run (ao : Option Addr) (cap n : Nat) (L : List Ma) (w : World) (hn : n = L.length) (hm : n ≤ 4611686018427387904) (ha : MAt w ao L) :
    Calls Try.prog 12 #[.slice ao n cap] w fun e w' => e = .returned (.int .i64 (chkM L)) ∧ Below w.heap.size w w' := by
  by_cases hl : 8 < n
  · have t1 : decide (8 < n) = true := decide_eq_true hl
    rw [chkM_long (by omega)]
    clear hn ha
    go_enter Try.func12, Try.ntmps12
    go_wp2_with fail
    go_ret
    exact ⟨rfl, Below.refl _ _⟩
  · have t1 : decide (8 < n) = false := decide_eq_false hl
    replace hn := Lib.hid hn
    replace ha := Lib.hid ha
    obtain ⟨V, hV⟩ : ∃ V, V = chkM L := ⟨_, rfl⟩
    rw [← hV]
    replace hV := Lib.hid hV
    go_enter Try.func12, Try.ntmps12
    go_wp2_with fail
    go_loopw [3] (fun iv wr => ∃ i : Nat, i ≤ n ∧ iv = .int .i64 i ∧ (∀ j, j < i → okB (mAt L j) = true) ∧ Below w.heap.size w wr) (fun iv _ => n - (intOf iv).toNat)
    case atStart => exact ⟨0, Nat.zero_le _, rfl, fun j hj => by omega, Below.refl _ _⟩
    case round =>
      obtain ⟨i, hi, rfl, ho, hb⟩ := hrel
      by_cases hlt : i < n
      · have hil : i < L.length := by have := hn.out; omega
        have hin : (i : Int) < (n : Int) := by omega
        obtain ⟨b, o, rfl, hbl, c0, cx, cp⟩ := MAt.row (ha.out.below (fun b o e _ => ha.out.lt b o e (by simp; omega)) hb) hil
        have bad : Hid (okB (mAt L i) = false → V = 140) := fun h => by rw [hV.out]; exact chkM_bad (by have := hn.out; omega) hil h
        have good : Hid (okB (mAt L i) = true → ∀ j, j < i + 1 → okB (mAt L j) = true) := fun h j hj => by
          by_cases e : j < i
          · exact ho j e
          · have e : j = i := by omega
            rw [e]; exact h
        clear ho
        generalize mAt L i = f at *
        replace hb := Lib.hid hb
        clear hbl
        by_cases m1 : f.m < 1
        · have v := Lib.hid (bad.out (okB_m (by omega)))
          have q1 : decide (f.m < 1) = true := decide_eq_true m1
          clear bad good cx cp
          generalize f.m = m at *
          go_wp2_with fail
          go_ret
          exact ⟨ret_iG v.out.symm, hb.out⟩
        · have q1 : decide (f.m < 1) = false := decide_eq_false m1
          by_cases m2 : 1048576 < f.m
          · have v := Lib.hid (bad.out (okB_m (by omega)))
            have q2 : decide (1048576 < f.m) = true := decide_eq_true m2
            clear bad good cx cp
            generalize f.m = m at *
            go_wp2_with fail
            go_ret
            exact ⟨ret_iG v.out.symm, hb.out⟩
          · have q2 : decide (1048576 < f.m) = false := decide_eq_false m2
            have good2 : Hid ((∀ k, k < 3 → preB f k = true) → ∀ j, j < i + 1 → okB (mAt L j) = true) := fun h => good.out (okB_all (by omega) (by omega) h)
            have bad2 : Hid (∀ k, k < 3 → preB f k = false → V = 140) := fun k hk h => bad.out (okB_no hk h)
            replace cx := Lib.hid cx
            replace cp := Lib.hid cp
            clear bad good
            generalize f.m = m at *
            go_wp2_with fail
            go_loopw [4] (fun kv wx => ∃ k : Nat, k ≤ 3 ∧ kv = .int .i64 k ∧ (∀ j, j < k → preB f j = true) ∧ wx = wr) (fun kv _ => 3 - (intOf kv).toNat)
            case atStart => exact ⟨0, by omega, rfl, fun j hj => by omega, rfl⟩
            case round =>
              obtain ⟨k, hk, rfl, hp, rfl⟩ := hrel
              by_cases hkt : k < 3
              · have hk3 : (k : Int) < 3 := by omega
                have x1 := cx.out k hkt
                have p1 := cp.out k hkt
                have nx : Hid (preB f k = true → ∀ j, j < k + 1 → preB f j = true) := fun h j hj => by
                  by_cases e : j < k
                  · exact hp j e
                  · have e : j = k := by omega
                    rw [e]; exact h
                have bd := Lib.hid (bad2.out k hkt)
                clear hp cx cp good2 bad2 c0
                have yes : Hid (-1099511627776 ≤ f.x.get k ∧ f.x.get k ≤ 1099511627776 ∧ -1125899906842624 ≤ f.p.get k ∧ f.p.get k ≤ 1125899906842624 → preB f k = true) := preB_good
                have no : Hid (¬ (-1099511627776 ≤ f.x.get k ∧ f.x.get k ≤ 1099511627776 ∧ -1125899906842624 ≤ f.p.get k ∧ f.p.get k ≤ 1125899906842624) → preB f k = false) := preB_bad
                generalize f.x.get k = x at *
                generalize f.p.get k = p at *
                by_cases a1 : x < -1099511627776
                · have v := Lib.hid (bd.out (no.out (by omega)))
                  have q1 : decide (x < -1099511627776) = true := decide_eq_true a1
                  clear bd no yes nx
                  go_wp2_with fail
                  go_ret
                  exact ⟨ret_iG v.out.symm, hb.out⟩
                · have q3 : decide (x < -1099511627776) = false := decide_eq_false a1
                  by_cases a2 : 1099511627776 < x
                  · have v := Lib.hid (bd.out (no.out (by omega)))
                    have q4 : decide (1099511627776 < x) = true := decide_eq_true a2
                    clear bd no yes nx
                    go_wp2_with fail
                    go_ret
                    exact ⟨ret_iG v.out.symm, hb.out⟩
                  · have q4 : decide (1099511627776 < x) = false := decide_eq_false a2
                    by_cases a3 : p < -1125899906842624
                    · have v := Lib.hid (bd.out (no.out (by omega)))
                      have q5 : decide (p < -1125899906842624) = true := decide_eq_true a3
                      clear bd no yes nx
                      go_wp2_with fail
                      go_ret
                      exact ⟨ret_iG v.out.symm, hb.out⟩
                    · have q5 : decide (p < -1125899906842624) = false := decide_eq_false a3
                      by_cases a4 : 1125899906842624 < p
                      · have v := Lib.hid (bd.out (no.out (by omega)))
                        have q6 : decide (1125899906842624 < p) = true := decide_eq_true a4
                        clear bd no yes nx
                        go_wp2_with fail
                        go_ret
                        exact ⟨ret_iG v.out.symm, hb.out⟩
                      · have q6 : decide (1125899906842624 < p) = false := decide_eq_false a4
                        have v := Lib.hid (nx.out (yes.out (by omega)))
                        clear bd no yes nx
                        go_wp2_with fail
                        go_roundw
                        case rel => exact ⟨k + 1, hkt, by go_num, v.out, by first | rfl | trivial⟩
                        case measure => simp [intOf]; omega
              · obtain rfl : k = 3 := by omega
                have v := Lib.hid (good2.out hp)
                clear hp cx cp good2 bad2 c0
                go_wp2_with fail
                go_roundw
                case rel => exact ⟨i + 1, hlt, by go_num, v.out, hb.out⟩
                case measure => simp [intOf]; omega
      · obtain rfl : i = n := by omega
        have hv : V = 0 := by
          rw [hV.out]
          exact chkM_good (by have := hn.out; omega) (fun j hj => ho j (by have := hn.out; omega))
        replace hv := Lib.hid hv
        replace hb := Lib.hid hb
        clear ho
        go_wp2_with fail
        go_ret
        exact ⟨ret_iG hv.out.symm, hb.out⟩
end Go.Proofs.Ytgfedhlnaipngaa

namespace Go.Proofs.Ytgfedhlnaipngaa
open Go.ChangeShapes Go.WideShapes Go.ChangeAt Go.RowKit Go.Deep Ieee.Own

def spI (L : List Ma) (k : Nat) : Int := sm L fun a => a.p.get k
def SumR (L : List Ma) : T3 × Int := if chkM L = 0 then (T3.of (spI L), 0) else (⟨0, 0, 0⟩, chkM L)
theorem SumR_ok {L : List Ma} (h : chkM L = 0) : SumR L = (T3.of (spI L), 0) := if_pos h
theorem SumR_no {L : List Ma} (h : chkM L ≠ 0) : SumR L = (⟨0, 0, 0⟩, chkM L) := if_neg h
def sumE (r : T3 × Int) : Ending := .returned (.tuple #[i3V r.1, .int .i64 r.2])
theorem sp_cap {L : List Ma} (h : allB L = true) (h8 : L.length ≤ 8) (i k : Nat) : (spI (L.take i) k).natAbs ≤ 2 ^ 53 := by
  have := sm_cap (f := fun a => a.p.get k) (c := 2 ^ 50) (L := L.take i) fun b hb => (allB_iff.1 h b (List.mem_of_mem_take hb)).p k
  have l : (L.take i).length ≤ 8 := by rw [List.length_take]; omega
  have q := Nat.mul_le_mul_right (2 ^ 50) l
  unfold spI
  omega
theorem sp_next {L : List Ma} {i : Nat} (hi : i < L.length) (k : Nat) : spI (L.take (i + 1)) k = spI (L.take i) k + (mAt L i).p.get k := take_next hi _
set_option maxHeartbeats 8000000 in
set_option maxRecDepth 100000 in
theorem rgsum_run (ao : Option Addr) (cap n : Nat) (L : List Ma) (w : World) (hn : n = L.length) (hm : n ≤ 4611686018427387904) (ha : MAt w ao L) :
    Calls Try.prog 20 #[.slice ao n cap] w fun e w' => e = sumE (SumR L) ∧ Below w.heap.size w w' := by
  have C := Lib.hid (fun W (h : MAt W ao L) => rgcheck_run ao cap n L W hn hm h)
  have lt0 := Lib.hid (ha.lt)
  have hst := @fstore
  have hsi := @istore
  replace ha := Lib.hid ha
  by_cases hc : chkM L = 0
  · obtain ⟨h8, hal⟩ := chkM_zero hc
    rw [SumR_ok hc]
    rw [hc] at C
    have n8 : n ≤ 8 := by omega
    have n8i : (n : Int) ≤ 8 := by omega
    have cap := Lib.hid (sp_cap hal h8)
    have pc : Hid (∀ i, i < L.length → ∀ k, ((mAt L i).p.get k).natAbs ≤ 2 ^ 50) := Lib.hid fun i hi k => (allB_iff.1 hal _ (mAt_mem hi)).p k
    replace hn := Lib.hid hn
    clear hc h8 hal
    have eS : sumE (T3.of (spI L), 0) = .returned (.tuple #[.agg #[.int .i64 (spI L 0), .int .i64 (spI L 1), .int .i64 (spI L 2)], .int .i64 0]) := rfl
    rw [eS]
    clear eS
    have K := kv2 w 32 32 (in3 ⟨0, 0, 0⟩) (in3 ⟨0, 0, 0⟩)
    simp only [objV] at K
    have A1 := Lib.hid (ha.out.below lt0.out K.old)
    replace K := Lib.hid K
    have ez : (in3 ⟨0, 0, 0⟩).toArray = #[.int .i64 0, .int .i64 0, .int .i64 0] := rfl
    rw [ez] at A1 K
    clear ez
    go_enter Try.func20, Try.ntmps20
    go_wp2_with fail
    refine (C.out _ A1.out).mono ?_
    rintro _ w1 ⟨rfl, hb1⟩
    replace K := Lib.hid (K.out.on hb1)
    clear C A1 hb1
    go_wp2_with fail
    go_loopw [6] (fun iv wr => ∃ i : Nat, i ≤ n ∧ iv = .int .i64 i ∧ Kv w [some (w.heap.size, in3 ⟨0, 0, 0⟩), some (w.heap.size + 1, in3 (T3.of (spI (L.take i))))] wr) (fun iv _ => n - (intOf iv).toNat)
    case atStart => exact ⟨0, Nat.zero_le _, rfl, K.out⟩
    case round =>
      obtain ⟨i, hi, rfl, C⟩ := hrel
      clear K
      by_cases hlt : i < n
      · have hil : i < L.length := by have := hn.out; omega
        have hin : (i : Int) < (n : Int) := by omega
        have A2 := ha.out.below lt0.out C.old
        have nx := Lib.hid (sp_next hil)
        have pcI := Lib.hid (pc.out i hil)
        have c1 := Lib.hid (cap.out i)
        have c2 := Lib.hid (cap.out (i + 1))
        obtain ⟨b, o, rfl, hbl, -, -, cp⟩ := MAt.row A2 hil
        clear A2
        have far : Hid (∀ W, Below w.heap.size w W → ∀ k, k < 3 → W.cell? ⟨b, o + i * 7 + 4 + k, none⟩ = some (.int .i64 ((mAt L i).p.get k))) := Lib.hid fun W h k hk => by
          obtain ⟨b', o', e, -, -, -, q⟩ := MAt.row (ha.out.below lt0.out h) hil
          obtain ⟨rfl, rfl⟩ : b = b' ∧ o = o' := by simpa using e
          exact q k hk
        clear hbl
        generalize mAt L i = f at *
        replace C := Lib.hid C
        go_wp2_with fail
        go_loopw [7] (fun kv wx => ∃ k : Nat, k ≤ 3 ∧ kv = .int .i64 k ∧ Kv w [some (w.heap.size, in3 ⟨0, 0, 0⟩), some (w.heap.size + 1, in3 ((T3.of (spI (L.take i))).mix (spI (L.take (i + 1))) k))] wx) (fun kv _ => 3 - (intOf kv).toNat)
        case atStart => exact ⟨0, by omega, rfl, C.out⟩
        case round =>
          obtain ⟨k, hk, rfl, X⟩ := hrel
          clear C
          by_cases hkt : k < 3
          · have hk3 : (k : Int) < 3 := by omega
            have e1 := (X.at_ 1 rfl).at_ k _ (in3_get _ hkt)
            have f1 := (X.at_ 1 rfl).fr k _ (in3_get _ hkt)
            rw [mix_get _ _ hkt, get_of _ hkt] at e1
            have e2 := far.out wr X.old k hkt
            have w1 : IntKind.i64.wrap (spI (L.take i) k + f.p.get k) = spI (L.take i) k + f.p.get k := IntWalk.i64_in _ (by have := c1.out k; have := pcI.out k; omega)
            have P := (X.put 1 rfl k [.int .i64 (spI (L.take i) k + f.p.get k)] (by simp [in3]; omega)).draws
            have nk := nx.out k
            rw [← nk] at P
            simp only [setV, in3_put _ hkt, mix_put _ _ hkt, putV] at P
            rw [nk] at P
            replace P := Lib.hid P
            clear X
            generalize spI (L.take i) k = s at *
            generalize f.p.get k = p at *
            go_wp2_with fail
            go_still_tail 12, (by kernel_rfl)
            change wpList _ _ _ _ _ wr.drew
            go_wp2_with fail
            go_roundw
            case rel => exact ⟨k + 1, hkt, by go_num, P.out⟩
            case measure => simp [intOf]; omega
          · obtain rfl : k = 3 := by omega
            rw [mix_three] at X
            have P := Lib.hid (X)
            clear X
            go_wp2_with fail
            go_roundw
            case rel => exact ⟨i + 1, hlt, by go_num, P.out⟩
            case measure => simp [intOf]; omega
      · obtain rfl : i = n := by omega
        rw [show L.take i = L by rw [hn.out]; exact List.take_length ..] at C
        have c0 := (C.at_ 1 rfl).at_ 0 _ rfl
        have c1 := (C.at_ 1 rfl).at_ 1 _ rfl
        have c2 := (C.at_ 1 rfl).at_ 2 _ rfl
        have g0 := (C.at_ 0 rfl).at_ 0 _ rfl
        have g1' := (C.at_ 0 rfl).at_ 1 _ rfl
        have g2 := (C.at_ 0 rfl).at_ 2 _ rfl
        have f0 := (C.at_ 0 rfl).fr 0 _ rfl
        have f1 := (C.at_ 0 rfl).fr 1 _ rfl
        have f2 := (C.at_ 0 rfl).fr 2 _ rfl
        have P := C.put 0 rfl 0 [.int .i64 (spI L 0), .int .i64 (spI L 1), .int .i64 (spI L 2)] (by simp [in3])
        simp only [putV, Nat.zero_add, Nat.reduceAdd] at P
        replace P := Lib.hid P
        unfold T3.of at c0 c1 c2
        dsimp only at c0 c1 c2
        clear C
        go_wp2_with fail
        replace P := P.out
        (try simp only [Exit.inBlock, Exit.then])
        refine bodyPost_ret (v := .tuple #[.agg #[.int .i64 (spI L 0), .int .i64 (spI L 1), .int .i64 (spI L 2)], .int .i64 0]) ?_ rfl ⟨rfl, P.old⟩
        have q0 := (P.at_ 0 rfl).at_ 0 _ rfl
        have q1 := (P.at_ 0 rfl).at_ 1 _ rfl
        have q2 := (P.at_ 0 rfl).at_ 2 _ rfl
        rw [results_cell_tmp rfl]; go_simp
  · rw [SumR_no hc]
    have t : (chkM L != 0) = true := by simpa using hc
    have eS : sumE (⟨0, 0, 0⟩, chkM L) = .returned (.tuple #[.agg #[.int .i64 0, .int .i64 0, .int .i64 0], .int .i64 (chkM L)]) := rfl
    rw [eS]
    clear eS hc
    generalize chkM L = k at *
    replace hn := Lib.hid hn
    have K := kv2 w 32 32 (in3 ⟨0, 0, 0⟩) (in3 ⟨0, 0, 0⟩)
    simp only [objV] at K
    have A1 := Lib.hid (ha.out.below lt0.out K.old)
    replace K := Lib.hid K
    have ez : (in3 ⟨0, 0, 0⟩).toArray = #[.int .i64 0, .int .i64 0, .int .i64 0] := rfl
    rw [ez] at A1 K
    clear ez
    go_enter Try.func20, Try.ntmps20
    go_wp2_with fail
    refine (C.out _ A1.out).mono ?_
    rintro _ w1 ⟨rfl, hb1⟩
    have K1 := K.out.on hb1
    have g0 := (K1.at_ 0 rfl).at_ 0 _ rfl
    have g1 := (K1.at_ 0 rfl).at_ 1 _ rfl
    have g2 := (K1.at_ 0 rfl).at_ 2 _ rfl
    have f0 := (K1.at_ 0 rfl).fr 0 _ rfl
    have f1 := (K1.at_ 0 rfl).fr 1 _ rfl
    have f2 := (K1.at_ 0 rfl).fr 2 _ rfl
    have c0 := (K1.at_ 1 rfl).at_ 0 _ rfl
    have c1 := (K1.at_ 1 rfl).at_ 1 _ rfl
    have c2 := (K1.at_ 1 rfl).at_ 2 _ rfl
    have P := K1.put 0 rfl 0 [.int .i64 0, .int .i64 0, .int .i64 0] (by simp [in3])
    simp only [putV, Nat.zero_add, Nat.reduceAdd] at P
    replace P := Lib.hid P
    clear C A1 hb1 K K1
    go_wp2_with fail
    replace P := P.out
    (try simp only [Exit.inBlock, Exit.then])
    refine bodyPost_ret (v := .tuple #[.agg #[.int .i64 0, .int .i64 0, .int .i64 0], .int .i64 k]) ?_ rfl ⟨rfl, P.old⟩
    have q0 := (P.at_ 0 rfl).at_ 0 _ rfl
    have q1 := (P.at_ 0 rfl).at_ 1 _ rfl
    have q2 := (P.at_ 0 rfl).at_ 2 _ rfl
    rw [results_cell_tmp rfl]; go_simp
end Go.Proofs.Ytgfedhlnaipngaa

namespace Go.Proofs.Ytgfedhlnaipngaa

def sgI (n k i : Nat) : Nat := (n - 1 - i + k) % n
theorem sgI_lt {n k i : Nat} (h : 0 < n) : sgI n k i < n := Nat.mod_lt _ h
theorem sgI_low {n k i : Nat} (hk : k < n) (hi : i < k) : sgI n k i = k - 1 - i := by
  unfold sgI
  have : n - 1 - i + k = (k - 1 - i) + n := by omega
  rw [this, Nat.add_mod_right, Nat.mod_eq_of_lt (by omega)]
theorem sgI_high {n k i : Nat} (hi : k ≤ i) (hn : i < n) : sgI n k i = n - 1 - i + k := by
  unfold sgI
  exact Nat.mod_eq_of_lt (by omega)
def sgL (n k : Nat) : List Nat := (List.range n).map (sgI n k)
theorem sgL_eq {n k : Nat} (hk : k < n) : sgL n k = (List.range k).reverse ++ (List.range' k (n - k)).reverse := by
  unfold sgL
  refine List.ext_getElem (by simp; omega) fun i h1 h2 => ?_
  have hi : i < n := by simpa using h1
  rw [List.getElem_map, List.getElem_range]
  by_cases q : i < k
  · rw [List.getElem_append_left (by simpa using q), List.getElem_reverse, List.getElem_range, sgI_low hk q]
    simp
  · rw [List.getElem_append_right (by simpa using Nat.le_of_not_lt q), List.getElem_reverse, List.getElem_range', sgI_high (by omega) hi]
    simp
    omega
theorem sgL_perm {n k : Nat} (hk : k < n) : (sgL n k).Perm (List.range n) := by
  rw [sgL_eq hk]
  have e : List.range n = List.range k ++ List.range' k (n - k) := by
    have q : List.range' 0 (k + (n - k)) = List.range' 0 k ++ List.range' k (n - k) := by
      rw [← List.range'_append_1, Nat.zero_add]
    rw [show k + (n - k) = n by omega] at q
    rw [List.range_eq_range', List.range_eq_range']
    exact q
  rw [e]
  exact (List.reverse_perm _).append (List.reverse_perm _)
theorem sgL_len (n k : Nat) : (sgL n k).length = n := by unfold sgL; simp
theorem pick_at {n k i : Nat} (l : List Ma) (hi : i < n) : mAt (pick (sgL n k) l) i = mAt l (sgI n k i) := by
  refine mAt_of ?_
  unfold pick sgL
  rw [List.map_map, List.getElem?_map, List.getElem?_range hi]
  rfl
theorem pick_len (n k : Nat) (l : List Ma) : (pick (sgL n k) l).length = n := by unfold pick; rw [List.length_map, sgL_len]
theorem pick_take {n k i : Nat} (l : List Ma) (hi : i < n) : (pick (sgL n k) l).take (i + 1) = (pick (sgL n k) l).take i ++ [mAt l (sgI n k i)] := by
  rw [List.take_add_one, mAt_get (by rw [pick_len]; exact hi), pick_at l hi]
  rfl
end Go.Proofs.Ytgfedhlnaipngaa

namespace Go.Proofs.Ytgfedhlnaipngaa
open Go.ChangeShapes Go.WideShapes Go.ChangeAt Go.RowKit Go.Deep Ieee.Own

def mk7 : Ma := ⟨77, ⟨0, 0, 0⟩, ⟨0, 0, 0⟩⟩
def mk8 : Ma := ⟨78, ⟨0, 0, 0⟩, ⟨0, 0, 0⟩⟩
set_option maxRecDepth 100000 in
theorem wpList_dupM {w : World} {ops : Array Oper} {rest : List Oper} {o : Oper} {a : Act} {Q : Exit → Act → World → Prop} {t e : TypeId} {m bytes : Nat} {z : Value} (T : RecT t e m bytes z) (hgd : o.guard = none) (s x : Operand)
    (ho : o.op = .call { callee := .builtin .append, args := #[s, x], argTypes := #[t, t] }) (base : Nat) (v : Value) (us : List (List Value)) (hs : a.eval s = v)
    (hown : w.ownsRow base e m v us.length us.flatten) (ao : Option Addr) (n cap : Nat) (R : List (List Value)) (hx : a.eval x = .slice ao n cap) (hn : n = R.length) (hnone : ao = none → cap = 0) (ha : RAt w ao m R) (hR : RowsOk m R)
    (hmax : us.length + R.length ≤ maxLen) (hby : (us.length + R.length) * bytes ≤ 140737488355328) (hbase : base ≤ w.heap.size)
    (h : ∀ v' w', w'.ownsRow base e m v' (us ++ R).length (us ++ R).flatten → w.grownBy w' v.ownBlock → wpList Try.prog ops Q rest (a.put o.dst v') w') :
    wpList Try.prog ops Q (o :: rest) a w :=
  wpList_plain hgd fun _ hK => wp_dupR T s x ho base v us hs hown ao n cap R hx hn hnone ha hR hmax hby hbase fun v' w' h2 h3 => hK _ _ (h v' w' h2 h3)
def mkC : Array Value := #[.int .i64 77, .int .i64 0, .int .i64 0, .int .i64 0, .int .i64 0, .int .i64 0, .int .i64 0, .int .i64 78, .int .i64 0, .int .i64 0, .int .i64 0, .int .i64 0, .int .i64 0, .int .i64 0]
theorem marks_at14 (w : World) : RAt (w.alloc (.cells mkC 34)) (some ⟨w.heap.size, 0, none⟩) 7 ([mk7, mk8].map maC) := by
  have B := BV.box w 34 mkC.toList
  intro j r hj
  have j2 : j = 0 ∨ j = 1 := by
    have := (List.getElem?_eq_some_iff.1 hj).1
    simp at this
    omega
  rcases j2 with rfl | rfl
  · simp at hj
    subst hj
    refine ⟨_, _, rfl, B.lt, fun k u hu => B.at_ _ u ?_⟩
    have hk := (List.getElem?_eq_some_iff.1 hu).1
    have : k = 0 ∨ k = 1 ∨ k = 2 ∨ k = 3 ∨ k = 4 ∨ k = 5 ∨ k = 6 := by simp [maC] at hk; omega
    rcases this with rfl | rfl | rfl | rfl | rfl | rfl | rfl <;> exact hu
  · simp at hj
    subst hj
    refine ⟨_, _, rfl, B.lt, fun k u hu => B.at_ _ u ?_⟩
    have hk := (List.getElem?_eq_some_iff.1 hu).1
    have : k = 0 ∨ k = 1 ∨ k = 2 ∨ k = 3 ∨ k = 4 ∨ k = 5 ∨ k = 6 := by simp [maC] at hk; omega
    rcases this with rfl | rfl | rfl | rfl | rfl | rfl | rfl <;> exact hu
set_option maxHeartbeats 4000000 in
set_option maxRecDepth 100000 in
theorem groomy_run (ao : Option Addr) (cap n : Nat) (L : List Ma) (w : World) (hn : n = L.length) (hm : n + 2 ≤ maxLen) (hr : (n + 2) * 56 ≤ 140737488355328) (hnone : ao = none → cap = 0) (ha : MAt w ao L) :
    Calls Try.prog 14 #[.slice ao n cap] w fun e w' => ∃ g cap', e = .returned (.slice (some ⟨g, 0, none⟩) n cap') ∧ n + 2 ≤ cap' ∧ cap' ≤ maxLen ∧ MAt w' (some ⟨g, 0, none⟩) (L ++ [mk7, mk8]) ∧ w.heap.size ≤ g ∧ Below w.heap.size w w' := by
  have ho := ownsR_empty w 34 7
  have ha1 := RAt.alloc ha (.cells #[] 34)
  have hb1 : w.heap.size ≤ (w.alloc (.cells #[] 34)).heap.size := by simp
  have B1 := Lib.hid ((Below.refl w.heap.size w).alloc (Nat.le_refl _) (.cells #[] 34))
  have hn0 := Lib.hid hn
  have hmx : ([] : List (List Value)).length + (L.map maC).length ≤ maxLen := by simp; omega
  have hby : (([] : List (List Value)).length + (L.map maC).length) * 56 ≤ 140737488355328 := by simp; omega
  clear ha hn
  go_enter Try.func14, Try.ntmps14
  go_wp2_with (at_builtin; refine wpList_dupM recM rfl _ _ rfl w.heap.size _ [] rfl ho ao n cap (L.map maC) rfl (by rw [List.length_map]; exact hn0.out) hnone ha1 (rows_ma L) hmx hby hb1 ?_)
  intro v' w' ho' hg'
  replace ho' : w'.ownsRow w.heap.size 34 7 v' (L.map maC).length (L.map maC).flatten := by simpa using ho'
  have B2 : Hid (Below w.heap.size w w') := B1.out.grown hg' hb1 (by intro k hk; simp [Value.ownBlock] at hk; omega)
  obtain ⟨ao', m', c', rfl⟩ : ∃ ao m c, v' = .slice ao m c := by
    obtain ⟨ao, cap, hv, -⟩ := ownsR_at (rows_ma L) ho'
    exact ⟨_, _, _, hv⟩
  have O5 := ho'.alloc (.cells mkC 34)
  have hlt := Lib.hid ho'.lt
  have hb5 : w.heap.size ≤ (w'.alloc (.cells mkC 34)).heap.size := by have := B2.out.size; simp; omega
  have B5 := Lib.hid (B2.out.alloc B2.out.size (.cells mkC 34))
  have MA := marks_at14 w'
  have hmx2 : (L.map maC).length + ([mk7, mk8].map maC).length ≤ maxLen := by have := hn0.out; simp; omega
  have hby2 : ((L.map maC).length + ([mk7, mk8].map maC).length) * 56 ≤ 140737488355328 := by have := hn0.out; simp; omega
  clear ho' hg' ho ha1 hb1 hby hmx B1 B2
  unfold mkC at O5 hb5 B5 MA
  go_wp2_with (at_builtin; refine wpList_dupM recM rfl _ _ rfl w.heap.size _ (L.map maC) rfl O5 (some ⟨w'.heap.size, 0, none⟩) 2 2 ([mk7, mk8].map maC) rfl rfl (by intro h; cases h) MA (rows_ma _) hmx2 hby2 hb5 ?_)
  intro v2 w3 ho3 hg3
  replace ho3 : w3.ownsRow w.heap.size 34 7 v2 ((L ++ [mk7, mk8]).map maC).length ((L ++ [mk7, mk8]).map maC).flatten := by
    first
    | (rw [List.map_append]; exact ho3)
    | simpa [Nat.add_assoc] using ho3
  obtain ⟨ao3, cap3, e3, h1, h2, h3, h4, h5⟩ := ownsR_at (rows_ma (L ++ [mk7, mk8])) ho3
  obtain ⟨g, rfl, hgb⟩ : ∃ g, ao3 = some ⟨g, 0, none⟩ ∧ w.heap.size ≤ g := by
    obtain ⟨b, o, e, -⟩ := h3 0 _ (by rw [List.getElem?_map, List.getElem?_eq_getElem (by simp : 0 < (L ++ [mk7, mk8]).length)]; rfl)
    obtain ⟨rfl, hg0, -⟩ := h5 b o e
    exact ⟨b, e, hg0⟩
  have B6 : Hid (Below w.heap.size w w3) := B5.out.grown hg3 hb5 (by intro k hk; exact (hlt.out k hk).1)
  have hlen : ((L ++ [mk7, mk8]).map maC).length = n + 2 := by rw [List.length_map, List.length_append, hn0.out]; rfl
  rw [hlen] at h1 e3
  have hF := Lib.hid (show MAt w3 (some ⟨g, 0, none⟩) (L ++ [mk7, mk8]) from h3)
  subst e3
  replace hgb := Lib.hid hgb
  clear ho3 hg3 O5 MA hmx2 hby2 hb5 B5 hlt h3 h4 h5 hlen
  have hnc : n ≤ cap3 := by omega
  go_wp2_with fail
  go_ret
  exact ⟨g, cap3, rfl, h1, h2, hF.out, hgb.out, B6.out⟩
theorem MAt.left {w : World} {ao : Option Addr} {L M : List Ma} (h : MAt w ao (L ++ M)) : MAt w ao L := fun j r hj => h j r (by
  have hl := (List.getElem?_eq_some_iff.1 hj).1
  rw [List.map_append, List.getElem?_append_left hl]
  exact hj)
set_option maxHeartbeats 4000000 in
set_option maxRecDepth 100000 in
theorem gkept_run (g : Nat) (ao : Option Addr) (cap cap' n : Nat) (L : List Ma) (w : World) (hn : n = L.length) (hm : n ≤ 4611686018427387904) (hcap : n + 2 ≤ cap') (hcm : cap' ≤ maxLen) (ha : MAt w (some ⟨g, 0, none⟩) (L ++ [mk7, mk8])) (hb : MAt w ao L) :
    Calls Try.prog 18 #[.slice (some ⟨g, 0, none⟩) n cap', .slice ao n cap] w fun e w' => e = .returned (.bool true) ∧ Below w.heap.size w w' := by
  have CL := Lib.hid (gsame_run (some ⟨g, 0, none⟩) ao cap' cap n L w hn hm ha.left hb)
  have at7 : mAt (L ++ [mk7, mk8]) n = mk7 := by rw [hn]; exact mAt_of (by simp)
  have at8 : mAt (L ++ [mk7, mk8]) (n + 1) = mk8 := by rw [hn]; exact mAt_of (by simp)
  have F7 := Lib.hid (fun W (h : Below w.heap.size w W) => MAt.cells (j := n) (ha.below (fun b o e k => ha.lt b o e k) h) (by rw [hn]; simp))
  have F8 := Lib.hid (fun W (h : Below w.heap.size w W) => MAt.cells (j := n + 1) (ha.below (fun b o e k => ha.lt b o e k) h) (by rw [hn]; simp))
  rw [at7] at F7
  rw [at8] at F8
  have e7 := meq_run mk7
  have e8 := meq_run mk8
  have hcm' : cap' ≤ 9223372036854775807 := by unfold maxLen at hcm; omega
  have hn2 : ¬ ((n : Int) + 1 < 0) := by omega
  have hn4 : IntKind.i64.wrap ((n : Int) + 1) = (n : Int) + 1 := IntWalk.i64_in _ (by omega)
  have hn7 : IntKind.i64.wrap ((n : Int) + 2) = (n : Int) + 2 := IntWalk.i64_in _ (by omega)
  have hn5 : ¬ ((n : Int) + 2 ≤ (n : Int) + 1) := by omega
  have hn1 : ¬ ((n : Int) + 2 ≤ (n : Int)) := by omega
  have hn6 : (((n : Int) + 1).toNat) = n + 1 := by omega
  have hn8 : (((n : Int) + 2).toNat) = n + 2 := by omega
  have hn3 : n ≤ cap' := by omega
  have hm' : (n : Int) ≤ 4611686018427387904 := by omega
  clear ha hb hcm hn at7 at8
  (try unfold mk7 at F7)
  (try unfold mk8 at F8)
  unfold mk7 maV at e7
  unfold mk8 maV at e8
  (try dsimp only at F7)
  (try dsimp only at F8)
  dsimp only at e7 e8
  go_enter Try.func18, Try.ntmps18
  go_wp2_with fail
  refine CL.out.mono ?_
  rintro _ w1 ⟨rfl, hb1⟩
  obtain ⟨b7, o7, q7, -, z0, z1, z2, z3, z4, z5, z6⟩ := F7.out w1 hb1
  obtain ⟨b8, o8, q8, -, y0, y1, y2, y3, y4, y5, y6⟩ := F8.out w1 hb1
  obtain ⟨rfl, rfl⟩ : g = b7 ∧ 0 = o7 := by simpa using q7
  obtain ⟨rfl, rfl⟩ : g = b8 ∧ 0 = o8 := by simpa using q8
  simp only [Nat.zero_add] at z0 z1 z2 z3 z4 z5 z6 y0 y1 y2 y3 y4 y5 y6
  replace hb1 := Lib.hid hb1
  clear F7 F8 CL q7 q8
  go_wp2_with fail
  go_ret
  exact ⟨by first | rfl | trivial, hb1.out⟩
end Go.Proofs.Ytgfedhlnaipngaa
