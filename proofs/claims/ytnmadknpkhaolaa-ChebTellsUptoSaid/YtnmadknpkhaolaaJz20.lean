/- Proved here: what the texts Hra, Hrb, Hrc, Hrd, Hre, Hrf prove, one behind the other. -/
import Derived.Test.YtnmadknpkhaolaaJz19
import Derived.Test.YtnmadknpkhaolaaJz17
import Derived.Test.YtnmadknpkhaolaaJz18
import Derived.Test.YtnmadknpkhaolaaJz16

namespace Go.Proofs.Ytnmadknpkhaolaa
open Go.ChangeShapes Go.WideShapes Go.ChangeAt Go.RowKit Ieee.Own

set_option maxRecDepth 100000 in
theorem rec64 : RecT 22 30 1 8 (.float .f64 0) := ⟨Try.underlying22, by kernel_rfl, rfl, by omega⟩
def r64 (L : List Nat) : List (List Value) := L.map fun x => [.float .f64 x]
theorem r64_at {w : World} {ao : Option Addr} {L : List Nat} (h : RAt w ao 1 (r64 L)) : At w ao L := by
  intro j hj
  have e : (r64 L)[j]? = some [.float .f64 (L.getD j 0)] := by unfold r64; simp [hj, List.getD]
  obtain ⟨b, o, eo, -, hc⟩ := h j _ e
  have := hc 0 _ rfl
  rw [Nat.mul_one, Nat.add_zero] at this
  exact ⟨b, o, eo, this⟩
abbrev OwnW (base : Nat) (w : World) (L : List Nat) (v : Value) (w' : World) : Prop := OwnR 30 1 base w (r64 L) v w'
theorem ownW_empty (w : World) : OwnW w.heap.size w [] (.slice (some ⟨w.heap.size, 0, none⟩) 0 0) (w.alloc (.cells #[] 30)) :=
  ⟨(Below.refl _ _).alloc (Nat.le_refl _) _, ownsR_empty w _ _, by simp, ⟨by simp [r64], by simp [r64]⟩⟩
theorem ownW_any {base : Nat} {w w' : World} {L : List Nat} {v : Value} (h : OwnW base w L v w') : ∃ ao m c, v = .slice ao m c := own_any h
theorem ownW_at {base : Nat} {w w' : World} {L : List Nat} {v : Value} (h : OwnW base w L v w') : ∃ ao cap, v = .slice ao L.length cap ∧ L.length ≤ cap ∧ cap ≤ maxLen ∧ At w' ao L := by
  obtain ⟨ao, cap, h1, h2, h3, h4, -, h5⟩ := ownsR_at h.ok h.own
  have e : (r64 L).length = L.length := by unfold r64; simp
  rw [e] at h1 h2
  exact ⟨ao, cap, h1, h2, by first | exact h3 | exact h4, by first | exact r64_at h4 | exact r64_at h3⟩
theorem r64_app (L : List Nat) (x : Nat) : r64 L ++ [[.float .f64 x]] = r64 (L ++ [x]) := by simp [r64]
theorem take_wide {L : List Nat} {i : Nat} (h : i < L.length) : (L.take i).map wideW ++ [wideW (L.getD i 0)] = (L.take (i + 1)).map wideW := by
  have e : L.take (i + 1) = L.take i ++ [L[i]] := by rw [List.take_add_one]; simp [h]
  rw [e, List.map_append]
  simp [List.getD, h]
set_option maxHeartbeats 4000000 in
set_option maxRecDepth 100000 in
theorem rrow_run {v : Value} {L : List Nat} (w : World) (hl : L.length ≤ 1048576) (hw : Ws32 L) (h : FsAt w v L) :
    Calls Try.prog 44 #[v] w fun e w' => ∃ ao cap, e = .returned (.slice ao L.length cap) ∧ At w' ao (L.map wideW) ∧ Below w.heap.size w w' := by
  obtain ⟨ao, cap, rfl, -, -, -, ha⟩ := h
  obtain ⟨n, hn⟩ : ∃ n, n = L.length := ⟨_, rfl⟩
  rw [← hn] at hl ⊢
  have N0 := Lib.hid (ownW_empty w)
  replace hn := Lib.hid hn
  replace ha := Lib.hid ha
  replace hw := Lib.hid hw
  go_enter Try.func44, Try.ntmps44
  go_wp2_with fail
  go_loopw [4, 3] (fun iv sv wr => ∃ i : Nat, i ≤ n ∧ iv = .int .i64 i ∧ OwnW w.heap.size w ((L.take i).map wideW) sv wr) (fun iv _ _ => n - (intOf iv).toNat)
  case atStart => exact ⟨0, Nat.zero_le _, rfl, N0.out⟩
  case round =>
    obtain ⟨i, hi, rfl, N⟩ := hrel
    replace N := Lib.hid N
    by_cases hlt : i < n
    · have hil : i < L.length := by have := hn.out; omega
      obtain ⟨b, o, rfl, hb, hc0⟩ := fs_cell ha.out hil
      have hc : wr.cell? ⟨b, o + i, none⟩ = some (.float .f32 (L.getD i 0)) := by
        rw [← hc0]
        exact World.cell?_of_block (a := ⟨b, o + i, none⟩) (N.out.old.block b hb)
      have C := fun w => rwide_run _ (ws_at hw.out i) w
      have TW := Lib.hid (take_wide hil)
      have lt : ((L.take i).map wideW).length = i := by simp; omega
      have li : i ≤ 1048576 := by omega
      obtain ⟨u, hu⟩ : ∃ u, u = L.getD i 0 := ⟨_, rfl⟩
      obtain ⟨M, hM⟩ : ∃ M, M = (L.take i).map wideW := ⟨_, rfl⟩
      rw [← hu] at hc C TW
      rw [← hM] at N TW lt
      have lM : (r64 M).length ≤ 1048576 := by unfold r64; rw [List.length_map, lt]; exact li
      replace lM := Lib.hid lM
      obtain ⟨ao', m', c', rfl⟩ := ownW_any N.out
      clear hc0 hu hM lt li hil
      replace hb := Lib.hid hb
      go_wp2_with (first | (go_at_call 32; ((with_reducible refine (C _).mono ?_); rintro e w' ⟨rfl, rfl⟩)) | (at_builtin; go_loud (refine wpList_pushR rec64 rfl _ _ rfl (.slice ao' m' c') (r64 M) rfl N.out [.float .f64 (wideW u)] rfl ?pa rfl ?pc ?pd ?_)))
      case pa => intro u hu; rw [List.mem_singleton.1 hu]; rfl
      case pc => have := lM.out; omega
      case pd => have := lM.out; unfold maxLen; omega
      intro v' w' N'
      rw [r64_app, TW.out] at N'
      replace N' := Lib.hid N'
      clear N C hc
      go_wp2_with fail
      go_roundw
      case rel => exact ⟨i + 1, by omega, by go_num, N'.out⟩
      case measure => simp [intOf]; omega
    · have e : (L.take i).map wideW = L.map wideW := by rw [List.take_of_length_le (by have := hn.out; omega)]
      rw [e] at N
      obtain ⟨ao', cap', rfl, -, -, hA⟩ := ownW_at N.out
      rw [List.length_map, ← hn.out] at *
      replace hA := Lib.hid hA
      go_wp2_with fail
      go_ret
      exact ⟨_, ⟨_, rfl⟩, hA.out, N.out.old⟩
end Go.Proofs.Ytnmadknpkhaolaa

namespace Go.Proofs.Ytnmadknpkhaolaa
open Go.ChangeShapes Go.WideShapes Go.ChangeAt Go.RowKit Ieee.Own

set_option maxRecDepth 100000 in
theorem rtime_run (x : Nat) (hx : x < 18446744073709551616) (w : World) :
    Calls Try.prog 43 #[.float .f64 x, .float .f64 4715268809856909312] w fun e w' => e = .returned (.bool (inM m24 x)) ∧ w = w' := by
  have CF := fun w => rfit_any x hx w
  have g1 := o_leq x 4715268809856909312 hx (by omega)
  have g2 := o_geq x 13938640846711685120 hx (by omega)
  have hneg : ∀ w, (Op.unary .neg (.float .f64 4715268809856909312)).run Try.prog w = .ok (.float .f64 13938640846711685120) w := fun w => rfl
  by_cases h1 : fitB x = true
  · have fn := fit_fin hx h1
    have m := fn.2
    rw [h1] at CF
    have n1 : nn x := fin_nn fn
    have n2 : nn 4715268809856909312 := by unfold nn; omega
    have n3 : nn 13938640846711685120 := by unfold nn; omega
    have k2 : key64 4715268809856909312 = 4715268809856909312 := by decide
    have k3 : key64 13938640846711685120 = -4715268809856909312 := by decide
    rw [k2] at g1
    rw [k3] at g2
    have kx : key64 x = if x < 9223372036854775808 then (x : Int) else 9223372036854775808 - (x : Int) := rfl
    by_cases c1 : key64 x ≤ 4715268809856909312
    · rw [decide_eq_true ⟨n1, n2, c1⟩] at g1
      by_cases c2 : -4715268809856909312 ≤ key64 x
      · have e : inM m24 x = true := by unfold inM m24; rw [decide_eq_true_eq]; exact ⟨h1, by split at kx <;> omega⟩
        rw [e]
        rw [decide_eq_true ⟨n1, n3, c2⟩] at g2
        clear hx h1 fn m e n1 n2 n3 k2 k3 kx c1 c2
        go_enter Try.func43, Try.ntmps43
        go_wp2_with (go_at_call 51; ((with_reducible refine (CF _).mono ?_); rintro e w' ⟨rfl, rfl⟩))
        go_ret
        exact ⟨rfl, rfl⟩
      · have e : inM m24 x = false := by unfold inM m24; rw [decide_eq_false_iff_not]; exact fun h => by have := h.2; split at kx <;> omega
        rw [e]
        rw [decide_eq_false (fun h => c2 h.2.2)] at g2
        clear hx h1 fn m e n1 n2 n3 k2 k3 kx c1 c2
        go_enter Try.func43, Try.ntmps43
        go_wp2_with (go_at_call 51; ((with_reducible refine (CF _).mono ?_); rintro e w' ⟨rfl, rfl⟩))
        go_ret
        exact ⟨rfl, rfl⟩
    · have e : inM m24 x = false := by unfold inM m24; rw [decide_eq_false_iff_not]; exact fun h => by have := h.2; split at kx <;> omega
      rw [e]
      rw [decide_eq_false (fun h => c1 h.2.2)] at g1
      clear hx h1 fn m e n1 n2 n3 k2 k3 kx c1 g2
      go_enter Try.func43, Try.ntmps43
      go_wp2_with (go_at_call 51; ((with_reducible refine (CF _).mono ?_); rintro e w' ⟨rfl, rfl⟩))
      go_ret
      exact ⟨rfl, rfl⟩
  · have e : inM m24 x = false := by unfold inM; rw [decide_eq_false_iff_not]; exact fun h => h1 h.1
    rw [Bool.not_eq_true] at h1
    rw [h1] at CF
    rw [e]
    clear hx h1 e g1 g2 hneg
    go_enter Try.func43, Try.ntmps43
    go_wp2_with (go_at_call 51; ((with_reducible refine (CF _).mono ?_); rintro e w' ⟨rfl, rfl⟩))
    go_ret
    exact ⟨rfl, rfl⟩
set_option maxRecDepth 100000 in
theorem rfine_run (x : Nat) (hx : x < 18446744073709551616) (w : World) : Calls Try.prog 40 #[.float .f64 x] w fun e w' => e = .returned (.float .f64 (bgW x)) ∧ w = w' := by
  have CF := fun w => rfit_any x hx w
  unfold bgW
  generalize fitB x = b at *
  clear hx
  cases b
  · go_enter Try.func40, Try.ntmps40
    go_wp2_with (go_at_call 51; ((with_reducible refine (CF _).mono ?_); rintro e w' ⟨rfl, rfl⟩))
    go_ret
    exact ⟨rfl, rfl⟩
  · go_enter Try.func40, Try.ntmps40
    go_wp2_with (go_at_call 51; ((with_reducible refine (CF _).mono ?_); rintro e w' ⟨rfl, rfl⟩))
    go_ret
    exact ⟨rfl, rfl⟩
/-- a step: the two ways to ask -/
theorem st_ref {x : Nat} (hx : x < 18446744073709551616) : (lowB x && topB x) = (inM m24 x && !(FloatKind.f64.format.order x 4562146422526312448 == some Ordering.lt)) := by
  rw [o_lss x 4562146422526312448 hx (by omega)]
  have k1 : key64 4562146422526312448 = 4562146422526312448 := by decide
  have k2 : key64 4715268809856909312 = 4715268809856909312 := by decide
  have n1 : nn 4562146422526312448 := by unfold nn; omega
  have n2 : nn 4715268809856909312 := by unfold nn; omega
  have kx : key64 x = if x < 9223372036854775808 then (x : Int) else 9223372036854775808 - (x : Int) := rfl
  unfold lowB topB inM m24 s10
  rw [k1, k2, Bool.eq_iff_iff]
  simp only [Bool.and_eq_true, decide_eq_true_eq, Bool.not_eq_true', decide_eq_false_iff_not]
  constructor
  · rintro ⟨⟨-, a1, a2⟩, -, -, a3⟩
    have p : x < 9223372036854775808 := by split at kx <;> omega
    rw [if_pos p] at kx
    refine ⟨⟨?_, by omega⟩, fun h => by omega⟩
    unfold fitB
    rw [decide_eq_true_eq]
    right
    omega
  · rintro ⟨⟨a1, a2⟩, a3⟩
    have nx : nn x := by
      have := (fit_fin hx a1).2
      unfold nn; omega
    have a4 : ¬ key64 x < 4562146422526312448 := fun h => a3 ⟨nx, n1, h⟩
    exact ⟨⟨n1, nx, by omega⟩, nx, n2, by split at kx <;> omega⟩
structure TbUp (t : Tb) : Prop where
  l : ∀ i k, k < 3 → (cfT t.rows i k).length ≤ 1048576
theorem may_err {L : List Nat} : mayB L = true ↔ errC (L.map wideW) = 0 := by
  unfold mayB
  simp only [Bool.and_eq_true, decide_eq_true_eq]
  refine ⟨fun h => h.2, fun h => ⟨?_, h⟩⟩
  by_cases c : L.length ≤ 16
  · exact c
  · have : errC (L.map wideW) = 2 := by unfold errC; rw [if_pos (by rw [List.length_map]; omega)]
    rw [this] at h
    exact absurd h (by decide)
theorem row_all {T : List (List (List Nat))} {i : Nat} (h : ∀ k, k < 3 → mayB (cfT T i k) = true) : rowB T i = true := by
  unfold rowB
  rw [h 0 (by omega), h 1 (by omega), h 2 (by omega)]; rfl
theorem row_bad {T : List (List (List Nat))} {i k : Nat} (hk : k < 3) (h : mayB (cfT T i k) = false) : rowB T i = false := by
  unfold rowB
  have : k = 0 ∨ k = 1 ∨ k = 2 := by omega
  rcases this with rfl | rfl | rfl <;> rw [h] <;> simp
set_option maxHeartbeats 4000000 in
set_option maxRecDepth 100000 in
theorem rcheck13_run {t : Tb} (ao : Option Addr) (cap : Nat) (w : World) (hm : t.rows.length ≤ 4611686018427387904) (hW : TbW t) (hU : TbUp t) (ha : TbAt w ao t.rows) :
    Calls Try.prog 18 #[tbV t ao cap] w fun e w' => e = .returned (.int .i64 (chkT t)) ∧ Below w.heap.size w w' := by
  obtain ⟨V, hV⟩ : ∃ V, V = chkT t := ⟨_, rfl⟩
  rw [← hV]
  obtain ⟨n, hn⟩ : ∃ n, n = t.rows.length := ⟨_, rfl⟩
  unfold tbV
  rw [← hn] at hm ⊢
  have K := kv1 w 34 [.float .f64 t.fr, .float .f64 t.st, .slice ao n cap]
  simp only [objV] at K
  have k0 := (K.at_ 0 rfl).at_ 0 _ rfl
  have k1 := (K.at_ 0 rfl).at_ 1 _ rfl
  have k2 := (K.at_ 0 rfl).at_ 2 _ rfl
  have CT := fun w => rtime_run t.fr hW.fr w
  have CS := fun w => rtime_run t.st hW.st w
  have SR := st_ref hW.st
  obtain ⟨lt, hlt⟩ : ∃ lt, lt = (FloatKind.f64.format.order t.st 4562146422526312448 == some Ordering.lt) := ⟨_, rfl⟩
  rw [← hlt] at SR
  have g1 := hlt.symm
  clear hlt
  by_cases hl : 64 < n
  · replace hV := Lib.hid (hV.trans (chkT_long (by omega)))
    have t1 : decide (64 < n) = true := decide_eq_true hl
    replace K := Lib.hid K
    clear hn ha hW CT CS g1 SR hU
    go_enter Try.func18, Try.ntmps18
    go_wp2_with fail
    go_ret
    exact ⟨ret_iH hV.out.symm, K.out.old⟩
  · have t1 : decide (64 < n) = false := decide_eq_false hl
    have step : Hid ((inM m24 t.fr && (inM m24 t.st && !lt)) = false → V = 130) := fun h => hV.trans (chkT_step (by omega) (by rw [SR]; exact h))
    cases h0 : inM m24 t.fr with
    | false =>
      rw [h0] at CT step
      replace hV := Lib.hid (step.out rfl)
      replace K := Lib.hid K
      clear step h0 hn ha hW g1 SR CS hU
      go_enter Try.func18, Try.ntmps18
      go_wp2_with (go_at_call 43; ((with_reducible refine (CT _).mono ?_); rintro e w' ⟨rfl, rfl⟩))
      go_ret
      exact ⟨ret_iH hV.out.symm, K.out.old⟩
    | true =>
      rw [h0] at CT step
      cases h1 : inM m24 t.st with
      | false =>
        rw [h1] at CS step
        replace hV := Lib.hid (step.out rfl)
        replace K := Lib.hid K
        clear step h0 h1 hn ha hW g1 SR hU
        go_enter Try.func18, Try.ntmps18
        go_wp2_with (first | (go_at_call 43; ((with_reducible refine (CT _).mono ?_); rintro e w' ⟨rfl, rfl⟩)) | (go_at_call 43; ((with_reducible refine (CS _).mono ?_); rintro e w' ⟨rfl, rfl⟩)))
        go_ret
        exact ⟨ret_iH hV.out.symm, K.out.old⟩
      | true =>
        rw [h1] at CS step SR
        cases lt with
        | true =>
          replace hV := Lib.hid (step.out rfl)
          replace K := Lib.hid K
          clear step h0 h1 hn ha hW SR hU
          go_enter Try.func18, Try.ntmps18
          go_wp2_with (first | (go_at_call 43; ((with_reducible refine (CT _).mono ?_); rintro e w' ⟨rfl, rfl⟩)) | (go_at_call 43; ((with_reducible refine (CS _).mono ?_); rintro e w' ⟨rfl, rfl⟩)))
          go_ret
          exact ⟨ret_iH hV.out.symm, K.out.old⟩
        | false =>
          have lt2 : lowB t.st = true ∧ topB t.st = true := by
            have := SR
            simpa using this
          have good : Hid ((∀ j, j < n → rowB t.rows j = true) → V = 0) := fun h => hV.trans (chkT_good (by omega) h0 lt2.1 lt2.2 (by rw [← hn]; exact h))
          have bad : Hid (∀ i k, i < n → k < 3 → mayB (cfT t.rows i k) = false → V = 130) := fun i k hi hk h => hV.trans (chkT_bad (by omega) (by rw [← hn]; exact hi) (row_bad hk h))
          have hws : Hid (∀ i k, Ws32 (cfT t.rows i k)) := Lib.hid hW.w
          replace hU := Lib.hid hU.l
          replace K := Lib.hid K
          clear step h0 h1 hV hW SR lt2
          replace hn := Lib.hid hn
          replace ha := Lib.hid ha
          go_enter Try.func18, Try.ntmps18
          go_wp2_with (first | (go_at_call 43; ((with_reducible refine (CT _).mono ?_); rintro e w' ⟨rfl, rfl⟩)) | (go_at_call 43; ((with_reducible refine (CS _).mono ?_); rintro e w' ⟨rfl, rfl⟩)))
          clear k0 k1 k2 CT CS g1
          go_loopw [3] (fun iv wr => ∃ i : Nat, i ≤ n ∧ iv = .int .i64 i ∧ (∀ j, j < i → rowB t.rows j = true) ∧ Kv w [some (w.heap.size, [.float .f64 t.fr, .float .f64 t.st, .slice ao n cap])] wr) (fun iv _ => n - (intOf iv).toNat)
          case atStart => exact ⟨0, Nat.zero_le _, rfl, fun j hj => by omega, K.out⟩
          case round =>
            clear K
            obtain ⟨i, hi, rfl, ho, K⟩ := hrel
            have k2 := (K.at_ 0 rfl).at_ 2 _ rfl
            replace K := Lib.hid K
            replace ho := Lib.hid ho
            by_cases hlt : i < n
            · have hi2 : (i : Int) < (n : Int) := by omega
              go_wp2_with fail
              clear k2
              generalize wr = wq at *
              go_loopw [4] (fun kv wr2 => ∃ k : Nat, k ≤ 3 ∧ kv = .int .i64 k ∧ (∀ q, q < k → mayB (cfT t.rows i q) = true) ∧ Kv w [some (w.heap.size, [.float .f64 t.fr, .float .f64 t.st, .slice ao n cap])] wr2) (fun kv _ => 3 - (intOf kv).toNat)
              case atStart => exact ⟨0, by omega, rfl, fun q hq => by omega, K.out⟩
              case round =>
                clear K
                obtain ⟨k, hk, rfl, ho2, K⟩ := hrel
                by_cases hlk : k < 3
                · have hil : i < t.rows.length := by have := hn.out; omega
                  obtain ⟨b, o, v, rfl, hb, hc, F⟩ := (ha.out.on K.old).at3 hil hlk
                  have k2 := (K.at_ 0 rfl).at_ 2 _ rfl
                  have R := fun W hb => rrow_run W (hU.out i k hlk) (hws.out i k) (F.on (w' := W) hb)
                  have E : Hid (∀ W ao cap, At W ao ((cfT t.rows i k).map wideW) → Calls Try.prog 27 #[.slice ao (cfT t.rows i k).length cap] W fun e w' => e = .returned (.int .i64 (errC ((cfT t.rows i k).map wideW))) ∧ W = w') :=
                    Lib.hid fun W ao cap h => rpcheck_run ao cap _ _ W (by rw [List.length_map]) (by have := hU.out i k hlk; omega) (ws_wide (hws.out i k)) h
                  have M := may_err (L := cfT t.rows i k)
                  have B := Lib.hid (bad.out i k hlt hlk)
                  have G : Hid (mayB (cfT t.rows i k) = true → ∀ q, q < k + 1 → mayB (cfT t.rows i q) = true) := Lib.hid fun h q hq => by
                    by_cases e : q < k
                    · exact ho2 q e
                    · have e : q = k := by omega
                      rw [e]; exact h
                  generalize hLL : cfT t.rows i k = L at *
                  replace K := Lib.hid K
                  replace R := Lib.hid R
                  have hk2 : (k : Int) < 3 := by omega
                  clear F hb ho2 hLL hil
                  generalize L.length = l at *
                  generalize errC (L.map wideW) = ec at *
                  by_cases z : ec = 0
                  · subst z
                    have G2 := Lib.hid (G.out (M.2 rfl))
                    clear G B M
                    go_wp2_with fail
                    refine (R.out _ (Below.refl _ _)).mono ?_
                    rintro _ w4 ⟨ao4, cap4, rfl, hA, hb4⟩
                    have K4 := Lib.hid (K.out.on hb4)
                    have E4 := fun cap => E.out w4 ao4 cap hA
                    clear K hA hb4 R E hc k2
                    go_wp2_with (go_at_call 27; ((with_reducible refine (E4 _).mono ?_); rintro e w' ⟨rfl, rfl⟩))
                    go_roundw
                    case rel => exact ⟨k + 1, by omega, by go_num, G2.out, K4.out⟩
                    case measure => first | (simp [intOf]; done) | (simp [intOf]; omega)
                  · have B2 := Lib.hid (B.out (by
                      cases h : mayB L with
                      | false => rfl
                      | true => exact absurd (M.1 h) z))
                    have tz : (ec != 0) = true := by simpa using z
                    clear G B M z
                    go_wp2_with fail
                    refine (R.out _ (Below.refl _ _)).mono ?_
                    rintro _ w4 ⟨ao4, cap4, rfl, hA, hb4⟩
                    have K4 := Lib.hid (K.out.on hb4)
                    have E4 := fun cap => E.out w4 ao4 cap hA
                    clear K hA hb4 R E hc k2
                    go_wp2_with (go_at_call 27; ((with_reducible refine (E4 _).mono ?_); rintro e w' ⟨rfl, rfl⟩))
                    go_ret
                    exact ⟨ret_iH B2.out.symm, K4.out.old⟩
                · obtain rfl : k = 3 := by omega
                  have ho3 : Hid (∀ j, j < i + 1 → rowB t.rows j = true) := Lib.hid fun j hj => by
                    by_cases e : j < i
                    · exact ho.out j e
                    · have e : j = i := by omega
                      rw [e]; exact row_all ho2
                  replace K := Lib.hid K
                  clear ho2 ho
                  go_wp2_with fail
                  go_roundw
                  case rel => exact ⟨i + 1, hlt, by go_num, ho3.out, K.out⟩
                  case measure => simp [intOf]; omega
            · obtain rfl : i = n := by omega
              go_wp2_with fail
              go_ret
              exact ⟨ret_iH (good.out ho.out).symm, K.out.old⟩
end Go.Proofs.Ytnmadknpkhaolaa

namespace Go.Proofs.Ytnmadknpkhaolaa
open Go.ChangeShapes Go.WideShapes Go.ChangeAt Go.RowKit Ieee.Own Pol

theorem small_53 {q : Int} {k n : Nat} (hk : k = q.toNat) (_h : 0 ≤ q) (g : q < n) (hn : n ≤ 64) : (k : Int).natAbs ≤ 2 ^ 53 := by omega
theorem bg_V {a b : Nat} (fa : FinW a) (fb : FinW b) (h : V a = V b) : V (bgW a) = V (bgW b) := by
  have k : fitB a = fitB b := by
    rw [Bool.eq_iff_iff, fit_iff fa, fit_iff fb, h]
  unfold bgW
  rw [k]
  by_cases c : fitB b = true
  · rw [if_pos c, if_pos c, h]
  · rw [if_neg c, if_neg c]
structure RfOk (y w : Nat) : Prop where
  s : Ieee.double.sub y w = some (lX y w)
  m : Ieee.double.mul (lX y w) twoW = some (mX (lX y w) twoW)
  l : Ieee.double.sub (mX (lX y w) twoW) oneW = some (lX (mX (lX y w) twoW) oneW)
  f : FinW (lX (mX (lX y w) twoW) oneW)
  a : Ieee.double.add (bgW (lX (mX (lX y w) twoW) oneW)) 0 = some (bgW (fH y))
theorem rf_ok {y w : Nat} (fy : FinW y) (by_ : (V y).natAbs ≤ 2 ^ 1126) (h0 : 0 ≤ V y) (fw : FinW w) (vw : V w = V y / 2 ^ 1074 * 2 ^ 1074) : RfOk y w := by
  have F := f_ok fy by_ h0
  have U0 := pow1 1074
  have r3 : Rep (-2 ^ 1074 : Int) := by have := Rep_V moneW; rwa [moneW_V.2] at this
  have fl := f_step U0 rep_one rep_two r3 (y := V y) rfl rfl rfl rfl
  have wb : (V w).natAbs ≤ 2 ^ 1126 := by
    rw [vw]
    exact floor_abs U0 h0 by_
  obtain ⟨s1, s2, s3, -⟩ := sub_ok (i := 1126) (k := 1127) fy fw by_ wb (by omega) (by omega)
  rw [vw] at s3
  have sb : (V (lX y w)).natAbs ≤ 2 ^ 1074 := nat_cap (k := 1074) (by rw [s3]; exact fl.1) (by rw [s3]; exact fl.2.1)
  have hN : V (lX y w) * V twoW = (2 * V (lX y w)) * 2 ^ 1074 := by
    rw [twoW_V.2, ← Int.mul_assoc, Int.mul_comm _ 2]
  have hb : (2 * V (lX y w)).natAbs ≤ 2 ^ 1075 := dbl_le (k := 1074) (l := 1075) (by omega) sb
  obtain ⟨r, m1, m2, m3⟩ := mulW s2 twoW_V.1 hN hb (by omega)
  have er : mX (lX y w) twoW = r := by unfold mX; rw [m1]; rfl
  rw [← er] at m1 m2 m3
  rw [← s3, ← m3] at fl
  have mb : (V (mX (lX y w) twoW)).natAbs ≤ 2 ^ 1075 := cap_dbl (k := 1074) (l := 1075) (by omega) fl.2.2.1 fl.2.2.2.1
  have ob : (V oneW).natAbs ≤ 2 ^ 1075 := by decide +kernel
  obtain ⟨l1, l2, l3, -⟩ := sub_ok (i := 1075) (k := 1076) m2 oneW_V.1 mb ob (by omega) (by omega)
  rw [oneW_V.2] at l3
  have e1 : V (lX y w) = V (lX y (wholeW .down y)) := s3.trans F.sv.symm
  have e2 : V (mX (lX y w) twoW) = V (mX (lX y (wholeW .down y)) twoW) := by rw [m3, F.mv, e1]
  have e3 : V (lX (mX (lX y w) twoW) oneW) = V (fH y) := by rw [l3, F.v, e2]
  have e4 : posW (bgW (lX (mX (lX y w) twoW) oneW)) = bgW (fH y) := (Nz.pos (bg_fin l2)).uniq (bg_nz F.nz) (by rw [posW_V]; exact bg_V l2 F.nz.fin e3)
  exact ⟨s1, m1, l1, l2, by rw [pos_add (bg_fin l2), e4]⟩
set_option maxHeartbeats 4000000 in
set_option maxRecDepth 100000 in
theorem rplace_run {t : Tb} {d : Nat} (ao : Option Addr) (cap : Nat) (w : World) (hn : t.rows.length ≤ 64) (h0 : 0 < t.rows.length) (Y : YOk t d) :
    Calls Try.prog 47 #[tbV t ao cap, .float .f64 d] w fun e w' => e = .returned (plcE (plc t d)) ∧ Below w.heap.size w w' := by
  have r1 := run_sub _ _ _ Y.s
  have r2 := run_div _ _ _ Y.q
  have l1 := le_words Y.fin zero_fin
  have U0 := pow1 1074
  obtain ⟨nf, nv⟩ := of_int (t.rows.length : Int) (by omega)
  have l2 := ge_words Y.fin nf
  rw [nv] at l2
  rw [V_zero] at l1
  have cv := fun w => conv_if t.rows.length w
  have ec : (((t.rows.length - 1 : Nat)) : Int) = (t.rows.length : Int) - 1 := by omega
  unfold tbV plcE
  by_cases c1 : V (yH t d) ≤ 0
  · rw [plc_one c1]
    rw [decide_eq_true c1] at l1
    clear l2 nf nv cv ec Y c1 hn h0
    generalize yH t d = y at *
    generalize lX d t.fr = x at *
    unfold moneW
    obtain ⟨fr, st, R⟩ := t
    dsimp only at *
    generalize R.length = n at *
    have hst := @fstore
    have K := kv1 w 34 [.float .f64 fr, .float .f64 st, .slice ao n cap]
    simp only [objV] at K
    have k0 := (K.at_ 0 rfl).at_ 0 _ rfl
    have k1 := (K.at_ 0 rfl).at_ 1 _ rfl
    have k2 := (K.at_ 0 rfl).at_ 2 _ rfl
    replace K := Lib.hid K
    go_enter Try.func47, Try.ntmps47
    go_wp2_with fail
    go_ret2
    exact ⟨rfl, K.out.old⟩
  · rw [decide_eq_false c1] at l1
    by_cases c2 : (t.rows.length : Int) * 2 ^ 1074 ≤ V (yH t d)
    · rw [plc_two c1 c2]
      rw [decide_eq_true c2] at l2
      dsimp only
      rw [ec]
      have w1 : IntKind.i64.wrap ((t.rows.length : Int) - 1) = (t.rows.length : Int) - 1 := by rw [IntKind.wrap_i64]; omega
      clear nf nv ec Y c1 c2
      generalize yH t d = y at *
      generalize lX d t.fr = x at *
      unfold oneW
      obtain ⟨fr, st, R⟩ := t
      dsimp only at *
      generalize R.length = n at *
      generalize FloatKind.f64.nearest (n : Int) = fn at *
      have hst := @fstore
      have K := kv1 w 34 [.float .f64 fr, .float .f64 st, .slice ao n cap]
      simp only [objV] at K
      have k0 := (K.at_ 0 rfl).at_ 0 _ rfl
      have k1 := (K.at_ 0 rfl).at_ 1 _ rfl
      have k2 := (K.at_ 0 rfl).at_ 2 _ rfl
      replace K := Lib.hid K
      go_enter Try.func47, Try.ntmps47
      go_wp2_with fail
      go_ret2
      exact ⟨rfl, K.out.old⟩
    · rw [plc_three c1 c2]
      rw [decide_eq_false c2] at l2
      have F := f_ok Y.fin Y.abs (by omega)
      have FL := fun w => floor_run Y.fin w
      have fl := floor_lt U0 (show 0 ≤ V (yH t d) by omega) c2
      obtain ⟨k, hk⟩ : ∃ k : Nat, k = (V (yH t d) / 2 ^ 1074).toNat := ⟨_, rfl⟩
      have hk2 : (k : Int) = V (yH t d) / 2 ^ 1074 := by rw [hk, to_nat_of fl.1]
      have k64 := small_k hk fl.1 fl.2 hn
      have k53 := small_53 hk fl.1 fl.2 hn
      have ck := fun w => conv_fl (K := (k : Int)) (to_int64 F.wf (by rw [F.wv, hk2]) k64) w
      obtain ⟨kf, kv⟩ := of_int (k : Int) k53
      have ci := fun w => conv_if k w
      have G := rf_ok Y.fin Y.abs (by omega) kf (by rw [kv, hk2])
      have r3 := run_sub _ _ _ G.s
      have r4 := run_mul _ _ _ G.m
      have r5 := run_sub _ _ _ G.l
      have r6 := run_add _ _ _ G.a
      have CB := fun w => rfine_run _ G.f.1 w
      rw [← hk]
      unfold twoW at r4 r5 r6 CB
      unfold oneW at r5 r6 CB
      clear nf nv ec Y c1 c2 F fl hk hk2 k64 k53 kf kv G
      generalize bgW (fH (yH t d)) = z at *
      generalize yH t d = y at *
      generalize lX d t.fr = x at *
      generalize wholeW .down y = wy at *
      generalize FloatKind.f64.nearest (k : Int) = wk at *
      generalize lX y wk = q1 at *
      generalize mX q1 4611686018427387904 = q2 at *
      generalize lX q2 4607182418800017408 = q3 at *
      generalize bgW q3 = q4 at *
      obtain ⟨fr, st, R⟩ := t
      dsimp only at *
      generalize R.length = n at *
      generalize FloatKind.f64.nearest (n : Int) = fn at *
      have hst := @fstore
      have K := kv1 w 34 [.float .f64 fr, .float .f64 st, .slice ao n cap]
      simp only [objV] at K
      have k0 := (K.at_ 0 rfl).at_ 0 _ rfl
      have k1 := (K.at_ 0 rfl).at_ 1 _ rfl
      have k2 := (K.at_ 0 rfl).at_ 2 _ rfl
      replace K := Lib.hid K
      go_enter Try.func47, Try.ntmps47
      go_wp2_with (first | (go_at_call 68; ((with_reducible refine (FL _).mono ?_); rintro e w' ⟨rfl, rfl⟩)) | (go_at_call 40; ((with_reducible refine (CB _).mono ?_); rintro e w' ⟨rfl, rfl⟩)))
      go_ret2
      exact ⟨rfl, K.out.old⟩
set_option maxHeartbeats 4000000 in
set_option maxRecDepth 100000 in
theorem rpiece_run {t : Tb} {d : Nat} (ao : Option Addr) (cap : Nat) (w : World) (hm : t.rows.length ≤ 4611686018427387904) (hW : TbW t) (hU : TbUp t) (ha : TbAt w ao t.rows) (hd : d < 18446744073709551616) :
    Calls Try.prog 21 #[tbV t ao cap, .float .f64 d] w fun e w' => e = .returned (pieE t d) ∧ Below w.heap.size w w' := by
  have CC : Hid (∀ W, Below w.heap.size w W → Calls Try.prog 18 #[tbV t ao cap] W fun e w' => e = .returned (.int .i64 (chkT t)) ∧ Below W.heap.size W w') := Lib.hid fun W hb => rcheck13_run ao cap W hm hW hU (ha.on hb)
  have CT := fun w => rtime_run d hd w
  have CP : Hid (rdyT t (inM m24 d) = 0 → ∀ W, Calls Try.prog 47 #[tbV t ao cap, .float .f64 d] W fun e w' => e = .returned (plcE (plc t d)) ∧ Below W.heap.size W w') := Lib.hid fun hr W => by
    obtain ⟨c0, c1, c2⟩ := rdyT_zero hr
    have KO := chkT_zero c0
    exact rplace_run ao cap W KO.len c2 (y_ok KO hW hd c1)
  unfold pieE
  have er : rdyT t (inM m24 d) = if chkT t ≠ 0 then chkT t else if inM m24 d = false ∨ t.rows.length = 0 then 80 else 0 := rfl
  unfold plcE at CP
  rw [er] at CP ⊢
  clear er hW hU ha hd
  generalize chkT t = c at *
  generalize inM m24 d = b at *
  generalize plc t d = P at *
  obtain ⟨i, x⟩ := P
  dsimp only at *
  unfold tbV at *
  obtain ⟨fr, st, R⟩ := t
  dsimp only at *
  generalize R.length = n at *
  obtain ⟨A, hA⟩ : ∃ A, A = (if (if c ≠ 0 then c else if b = false ∨ n = 0 then 80 else 0) = 0 then Value.tuple #[.int .i64 (i : Int), .float .f64 x, .int .i64 0] else .tuple #[.int .i64 0, .float .f64 0, .int .i64 (if c ≠ 0 then c else if b = false ∨ n = 0 then 80 else 0)]) := ⟨_, rfl⟩
  rw [← hA]
  replace hA := Lib.hid hA
  have K0 := kv1 w 34 [.float .f64 fr, .float .f64 st, .slice ao n cap]
  simp only [objV] at K0
  have c0_0 := (K0.at_ 0 rfl).at_ 0 _ rfl
  have c0_1 := (K0.at_ 0 rfl).at_ 1 _ rfl
  have c0_2 := (K0.at_ 0 rfl).at_ 2 _ rfl
  have hst := @fstore
  replace K0 := Lib.hid K0
  go_enter Try.func21, Try.ntmps21
  go_wp2_with fail
  have K := K0.out
  clear K0 c0_0 c0_1 c0_2
  generalize w.alloc _ = wr at *
  refine (CC.out wr K.old).mono ?_
  rintro _ v1 ⟨rfl, hb⟩
  replace K := K.on hb
  clear hb CC
  have c0_0 := (K.at_ 0 rfl).at_ 0 _ rfl
  have c0_1 := (K.at_ 0 rfl).at_ 1 _ rfl
  have c0_2 := (K.at_ 0 rfl).at_ 2 _ rfl
  by_cases hc : c = 0
  · subst hc
    cases b with
    | false =>
      have hA2 : A = .tuple #[.int .i64 0, .float .f64 0, .int .i64 80] := by rw [hA.out]; simp
      replace hA2 := Lib.hid hA2
      clear hA
      replace K := Lib.hid K
      clear CP
      go_wp2_with (go_at_call 43; ((with_reducible refine (CT _).mono ?_); rintro e w' ⟨rfl, rfl⟩))
      go_ret3
      exact ⟨congrArg Ending.returned hA2.out.symm, K.out.old⟩
    | true =>
      by_cases hz : n = 0
      · subst hz
        have hA2 : A = .tuple #[.int .i64 0, .float .f64 0, .int .i64 80] := by rw [hA.out]; simp
        replace hA2 := Lib.hid hA2
        clear hA
        replace K := Lib.hid K
        clear CP
        go_wp2_with (go_at_call 43; ((with_reducible refine (CT _).mono ?_); rintro e w' ⟨rfl, rfl⟩))
        go_ret3
        exact ⟨congrArg Ending.returned hA2.out.symm, K.out.old⟩
      · have CQ := CP.out (by simp [hz])
        have tz : ((n : Int) == 0) = false := by simpa using hz
        have hA2 : A = .tuple #[.int .i64 (i : Int), .float .f64 x, .int .i64 0] := by rw [hA.out]; simp [hz]
        replace hA2 := Lib.hid hA2
        clear hA
        replace CQ := Lib.hid CQ
        replace K := Lib.hid K
        clear CP hz
        go_wp2_with (go_at_call 43; ((with_reducible refine (CT _).mono ?_); rintro e w' ⟨rfl, rfl⟩))
        refine (CQ.out v1).mono ?_
        rintro _ v2 ⟨rfl, hb⟩
        replace K := Lib.hid (K.out.on hb)
        clear hb CQ c0_0 c0_1 c0_2
        go_wp2_with fail
        go_ret3
        exact ⟨congrArg Ending.returned hA2.out.symm, K.out.old⟩
  · have tc : (c != 0) = true := by simpa using hc
    have hA2 : A = .tuple #[.int .i64 0, .float .f64 0, .int .i64 c] := by rw [hA.out]; simp [hc]
    replace hA2 := Lib.hid hA2
    clear hA
    replace K := Lib.hid K
    clear CP
    go_wp2_with fail
    go_ret3
    exact ⟨congrArg Ending.returned hA2.out.symm, K.out.old⟩
end Go.Proofs.Ytnmadknpkhaolaa

namespace Go.Proofs.Ytnmadknpkhaolaa
open Go.ChangeShapes Go.WideShapes Go.ChangeAt Go.RowKit Ieee.Own Pol

set_option maxRecDepth 100000 in
theorem rasked_zero (ao : Option Addr) (cap n : Nat) (L : List Nat) (x : Nat) (w : World) (hn : n = L.length) (hm : n ≤ 4611686018427387904) (hw : Words L) (ha : At w ao L) (hx : x < 18446744073709551616) (h0 : errX m00 L x = 0) :
    Calls Try.prog 52 #[.slice ao n cap, .float .f64 x, .float .f64 4607182418800017408] w fun e w' => e = .returned (.int .i64 0) ∧ w = w' := by
  have K := rpcheck_run ao cap n L w hn hm hw ha
  obtain ⟨hC, hX⟩ := errX_zero h0
  rw [hC] at K
  have CF := fun w => rfit_any x hx w
  have g1 := o_gtr x 4607182418800017408 hx (by omega)
  have g2 := o_lss x 13830554455654793216 hx (by omega)
  have hneg : ∀ w, (Op.unary .neg (.float .f64 4607182418800017408)).run Try.prog w = .ok (.float .f64 13830554455654793216) w := fun w => rfl
  unfold inM m00 at hX
  rw [decide_eq_true_eq] at hX
  obtain ⟨h1, hx2⟩ := hX
  have k2 : key64 4607182418800017408 = 4607182418800017408 := by decide
  have k3 : key64 13830554455654793216 = -4607182418800017408 := by decide
  rw [k2] at g1
  rw [k3] at g2
  have kx : key64 x = if x < 9223372036854775808 then (x : Int) else 9223372036854775808 - (x : Int) := rfl
  rw [decide_eq_false (fun h => by have := h.2.2; split at kx <;> omega)] at g1
  rw [decide_eq_false (fun h => by have := h.2.2; split at kx <;> omega)] at g2
  rw [h1] at CF
  clear hn hm hw ha hx h0 hC h1 hx2 k2 k3 kx
  go_enter Try.func52, Try.ntmps52
  go_wp2_with (first | (go_at_call 27; ((with_reducible refine K.mono ?_); rintro e w' ⟨rfl, rfl⟩)) | (go_at_call 51; ((with_reducible refine (CF _).mono ?_); rintro e w' ⟨rfl, rfl⟩)))
  go_ret
  exact ⟨rfl, rfl⟩
set_option maxHeartbeats 1000000 in
set_option maxRecDepth 100000 in
theorem rcheb_some (ao : Option Addr) (cap n : Nat) (L : List Nat) (x : Nat) (w : World) (hn : n = L.length) (hp : 0 < n) (hw : Words L) (ha : At w ao L) (hx : x < 18446744073709551616) (hm : n ≤ 4611686018427387904) (h0 : errX m00 L x = 0) :
    Calls Try.prog 28 #[.slice ao n cap, .float .f64 x] w fun e w' => e = .returned (fe (posW (chW x L)) 0) ∧ w = w' := by
  have K := rasked_zero ao cap n L x w hn hm hw ha hx h0
  obtain ⟨hC, hX⟩ := errX_zero h0
  obtain ⟨hl16, hfc⟩ := errC_zero hw hC
  obtain ⟨fx, bx⟩ := inM_x00 hx hX
  have CS := cl_parts fx bx hfc hn (by omega) hp
  have rd := run_add _ _ _ CS.dbl
  have CS := Lib.hid CS
  replace hn := Lib.hid hn
  replace ha := Lib.hid ha
  have n16 : n ≤ 16 := by have := hn.out; omega
  have tw : IntKind.i64.wrap ((n : Int) - 1) = (n : Int) - 1 := by rw [IntKind.wrap_i64]; omega
  have tn : ((n : Int) == 0) = false := by simp; omega
  clear hw hx h0 hC hX hl16 hfc fx bx hm
  go_enter Try.func28, Try.ntmps28
  go_wp2_with (go_at_call 52; ((with_reducible refine K.mono ?_); rintro e w' ⟨rfl, rfl⟩))
  clear K
  go_loop [7, 8, 9] (fun bv dv iv => ∃ i : Nat, i ≤ n - 1 ∧ iv = .int .i64 ((n : Int) - 1 - i) ∧ bv = .float .f64 (clW x (L.tail.drop (n - 1 - i))).1 ∧ dv = .float .f64 (clW x (L.tail.drop (n - 1 - i))).2) (fun _ _ iv => (intOf iv).toNat)
  case atStart => exact ⟨0, Nat.zero_le _, by simp, by rw [Nat.sub_zero, CS.out.a8], by rw [Nat.sub_zero, CS.out.a8]⟩
  case round =>
    obtain ⟨i, hi, rfl, rfl, rfl⟩ := hrel
    by_cases hlt : i < n - 1
    · obtain ⟨⟨r1, r2, r3⟩, nx⟩ := CS.out.step i hlt
      obtain ⟨b, o, rfl, hc⟩ := ha.out (n - 1 - i) (by have := hn.out; omega)
      have r1 := run_mul _ _ _ r1
      have r2 := run_sub _ _ _ r2
      have r3 := run_add _ _ _ r3
      have hge : 1 ≤ (n : Int) - 1 - (i : Int) := by omega
      obtain ⟨u, hu⟩ : ∃ u, u = L.getD (n - 1 - i) 0 := ⟨_, rfl⟩
      rw [← hu] at hc r3 nx
      generalize (clW x (L.tail.drop (n - 1 - i))).1 = s at *
      generalize (clW x (L.tail.drop (n - 1 - i))).2 = d at *
      replace nx := Lib.hid nx
      generalize lX (mX (aX x x) s) d = l at *
      generalize mX (aX x x) s = m at *
      obtain ⟨y, hy⟩ : ∃ y, y = aX l u := ⟨_, rfl⟩
      rw [← hy] at r3 nx
      have e0 : (i : Int) ≤ (n : Int) - 1 := by omega
      have e2 : (n : Int) - 1 - (i : Int) < (n : Int) := by omega
      have e3 : ((n : Int) - 1 - (i : Int)).toNat = n - 1 - i := by omega
      clear hu hy CS
      generalize aX x x = xx at *
      go_wp2_with fail
      go_round
      case rel => exact ⟨i + 1, by omega, by go_num, by rw [nx.out], by rw [nx.out]⟩
      case measure => simp [intOf]; omega
    · obtain rfl : i = n - 1 := by omega
      obtain ⟨b, o, rfl, hc⟩ := ha.out 0 (by have := hn.out; omega)
      have r1 := run_mul _ _ _ CS.out.m
      have r2 := run_sub _ _ _ CS.out.l
      have r3 := run_add _ _ _ CS.out.s
      have r4 := run_add _ _ _ CS.out.p
      have ei : (n : Int) - 1 - ((n - 1 : Nat) : Int) = 0 := by omega
      rw [Nat.sub_self, List.drop_zero, ei]
      rw [Nat.add_zero] at hc
      have hpi : (0 : Int) < (n : Int) := by omega
      obtain ⟨u, hu⟩ : ∃ u, u = L.getD 0 0 := ⟨_, rfl⟩
      rw [← hu] at hc r3
      generalize (clW x L.tail).1 = s at *
      generalize (clW x L.tail).2 = d at *
      generalize lX (mX x s) d = l at *
      generalize mX x s = m at *
      obtain ⟨y, hy⟩ : ∃ y, y = chW x L := ⟨_, rfl⟩
      rw [← hy] at r3 r4
      replace hy := Lib.hid hy
      clear hu CS rd
      go_wp2_with fail
      go_ret2
      exact ⟨by rw [← hy.out]; rfl, rfl⟩
set_option maxRecDepth 100000 in
theorem rcheb_nil (ao : Option Addr) (cap n : Nat) (L : List Nat) (x : Nat) (w : World) (hn : n = L.length) (hz : n = 0) (hw : Words L) (ha : At w ao L) (hx : x < 18446744073709551616) (h0 : errX m00 L x = 0) :
    Calls Try.prog 28 #[.slice ao n cap, .float .f64 x] w fun e w' => e = .returned (fe 0 0) ∧ w = w' := by
  have K := rasked_zero ao cap n L x w hn (by omega) hw ha hx h0
  subst hz
  clear h0 hn hw ha hx
  go_enter Try.func28, Try.ntmps28
  go_wp2_with (go_at_call 52; ((with_reducible refine K.mono ?_); rintro e w' ⟨rfl, rfl⟩))
  go_ret2
  exact ⟨rfl, rfl⟩
set_option maxRecDepth 100000 in
theorem rcheb_ok (ao : Option Addr) (cap n : Nat) (L : List Nat) (x : Nat) (w : World) (hn : n = L.length) (hm : n ≤ 4611686018427387904) (hw : Words L) (ha : At w ao L) (hx : x < 18446744073709551616) (h0 : errX m00 L x = 0) :
    Calls Try.prog 28 #[.slice ao n cap, .float .f64 x] w fun e w' => e = .returned (fe (posW (chW x L)) 0) ∧ w = w' := by
  by_cases hz : n = 0
  · have := rcheb_nil ao cap n L x w hn hz hw ha hx h0
    have e : L = [] := List.eq_nil_of_length_eq_zero (by omega)
    rw [e]
    exact this
  · exact rcheb_some ao cap n L x w hn (by omega) hw ha hx hm h0
end Go.Proofs.Ytnmadknpkhaolaa

namespace Go.Proofs.Ytnmadknpkhaolaa
open Go.ChangeShapes Go.WideShapes Go.ChangeAt Go.RowKit Ieee.Own Pol

theorem pos_self {x : Nat} (h : Nz x) : posW x = x := by unfold posW; rw [if_neg h.nz]
set_option maxRecDepth 100000 in
/-- a number of a row, the reference's way -/
theorem rvalue_parts {t : Tb} {i k x : Nat} (hW : TbW t) (hU : TbUp t) (hk : k < 3) (hm : mayB (cfT t.rows i k) = true) (hx : x < 18446744073709551616) (h1 : inM m00 x = true) :
    (∀ W v, FsAt W v (cfT t.rows i k) → Calls Try.prog 44 #[v] W fun e w' => ∃ ao cap, e = .returned (.slice ao (cfT t.rows i k).length cap) ∧ At w' ao ((cfT t.rows i k).map wideW) ∧ Below W.heap.size W w') ∧
    (∀ W ao cap, At W ao ((cfT t.rows i k).map wideW) → Calls Try.prog 28 #[.slice ao (cfT t.rows i k).length cap, .float .f64 x] W fun e w' => e = .returned (.tuple #[.float .f64 (posW (chW x ((cfT t.rows i k).map wideW))), .int .i64 0]) ∧ W = w') ∧
    (∀ W, Calls Try.prog 40 #[.float .f64 (posW (chW x ((cfT t.rows i k).map wideW)))] W fun e w' => e = .returned (.float .f64 (vH (cfT t.rows i k) x)) ∧ W = w') ∧
    Ieee.double.add (vH (cfT t.rows i k) x) 0 = some (vH (cfT t.rows i k) x) := by
  have O := vh_ok (hW.w i k) hm hx h1
  have N := bg_nz (Nz.pos O.fin)
  refine ⟨fun W v h => rrow_run W (hU.l i k hk) (hW.w i k) h, fun W ao cap h => ?_, fun W => rfine_run _ (Nz.pos O.fin).fin.1 W, ?_⟩
  · exact rcheb_ok ao cap _ _ x W (by simp) (by have := O.len; omega) (ws_wide (hW.w i k)) h hx O.er
  · have := pos_add N.fin
    rw [pos_self N] at this
    exact this
set_option maxHeartbeats 4000000 in
set_option maxRecDepth 100000 in
theorem rat13_run {t : Tb} {d : Nat} (ao : Option Addr) (cap : Nat) (w : World) (hm : t.rows.length ≤ 4611686018427387904) (hW : TbW t) (hU : TbUp t) (ha : TbAt w ao t.rows) (hd : d < 18446744073709551616) :
    Calls Try.prog 24 #[tbV t ao cap, .float .f64 d] w fun e w' => e = .returned (vecE (atH t d).1 (atH t d).2) ∧ Below w.heap.size w w' := by
  have CP : Hid (∀ W, Below w.heap.size w W → Calls Try.prog 21 #[tbV t ao cap, .float .f64 d] W fun e w' => e = .returned (pieE t d) ∧ Below W.heap.size W w') := Lib.hid fun W hb => rpiece_run ao cap W hm hW hU (ha.on hb) hd
  unfold pieE at CP
  unfold atH vecE vecV
  by_cases hr : rdyT t (inM m24 d) = 0
  · rw [if_pos hr] at CP
    rw [if_pos hr]
    obtain ⟨c0, c1, c2⟩ := rdyT_zero hr
    have KO := chkT_zero c0
    have P := pl_ok (y_ok KO hW hd c1) c2
    have M := row_may (KO.row _ P.row)
    have hx := pl_m00 P
    have V0 := rvalue_parts hW hU (by omega) M.1 P.nz.fin.1 hx
    have V1 := rvalue_parts hW hU (by omega) M.2.1 P.nz.fin.1 hx
    have V2 := rvalue_parts hW hU (by omega) M.2.2 P.nz.fin.1 hx
    have hi := P.row
    have h64 := KO.len
    unfold rwH
    dsimp only
    replace ha := Lib.hid ha
    clear hm hW hU hr c0 c1 c2 KO P M hx hd
    generalize plc t d = P at *
    obtain ⟨i, x⟩ := P
    dsimp only at *
    generalize vH (cfT t.rows i 0) x = z0 at *
    generalize vH (cfT t.rows i 1) x = z1 at *
    generalize vH (cfT t.rows i 2) x = z2 at *
    generalize posW (chW x ((cfT t.rows i 0).map wideW)) = y0 at *
    generalize posW (chW x ((cfT t.rows i 1).map wideW)) = y1 at *
    generalize posW (chW x ((cfT t.rows i 2).map wideW)) = y2 at *
    obtain ⟨R0, E0, F0, A0⟩ := V0
    obtain ⟨R1, E1, F1, A1⟩ := V1
    obtain ⟨R2, E2, F2, A2⟩ := V2
    have r0 := run_add _ _ _ A0
    have r1 := run_add _ _ _ A1
    have r2 := run_add _ _ _ A2
    replace R0 := Lib.hid R0
    replace R1 := Lib.hid R1
    replace R2 := Lib.hid R2
    replace E0 := Lib.hid E0
    replace E1 := Lib.hid E1
    replace E2 := Lib.hid E2
    clear A0 A1 A2
    unfold tbV at *
    obtain ⟨fr, st, R⟩ := t
    dsimp only at *
    obtain ⟨n, hn⟩ : ∃ n, n = R.length := ⟨_, rfl⟩
    rw [← hn] at CP hi h64 ⊢
    replace hn := Lib.hid hn
    have K0 := kv2 w 34 41 [.float .f64 fr, .float .f64 st, .slice ao n cap] [.float .f64 0, .float .f64 0, .float .f64 0]
    simp only [objV] at K0
    have hst := @fstore
    replace K0 := Lib.hid K0
    have c0_0 := (K0.out.at_ 0 rfl).at_ 0 _ rfl
    have c0_1 := (K0.out.at_ 0 rfl).at_ 1 _ rfl
    have c0_2 := (K0.out.at_ 0 rfl).at_ 2 _ rfl
    go_enter Try.func24, Try.ntmps24
    go_wp2_with fail
    have K := K0.out
    clear K0 c0_0 c0_1 c0_2
    generalize (w.alloc _).alloc _ = wr at *
    refine (CP.out wr K.old).mono ?_
    rintro _ v1 ⟨rfl, hb⟩
    replace K := K.on hb
    clear hb CP
    replace K := K.new 82 [.float .f64 0, .float .f64 0, .float .f64 0]
    simp only [objV, List.cons_append, List.nil_append] at K
    replace K := Lib.hid K
    go_wp2_with fail
    replace K := K.out
    generalize v1.alloc _ = wl at *
    generalize v1.heap.size = g1 at *
    go_loopw [10] (fun kv wr => ∃ k : Nat, k ≤ 3 ∧ kv = .int .i64 k ∧ Kv w [some (w.heap.size, [.float .f64 fr, .float .f64 st, .slice ao n cap]), some (w.heap.size + 1, [.float .f64 0, .float .f64 0, .float .f64 0]), some (g1, [.float .f64 (if 0 < k then z0 else 0), .float .f64 (if 1 < k then z1 else 0), .float .f64 (if 2 < k then z2 else 0)])] wr) (fun kv _ => 3 - (intOf kv).toNat)
    case atStart => exact ⟨0, by omega, rfl, K⟩
    case round =>
      clear K
      obtain ⟨k, hk, rfl, K⟩ := hrel
      have hk' : k = 0 ∨ k = 1 ∨ k = 2 ∨ k = 3 := by omega
      rcases hk' with rfl | rfl | rfl | rfl
      · simp only [Nat.lt_irrefl, Nat.reduceLT, if_false] at K
        have hil : i < R.length := by have := hn.out; omega
        obtain ⟨b, o, v, rfl, hb, hc, F⟩ := (ha.out.on K.old).at3 hil (show 0 < 3 by omega)
        rw [Nat.add_zero] at hc
        have c0_2 := (K.at_ 0 rfl).at_ 2 _ rfl
        replace K := Lib.hid K
        have hi2 : (i : Int) < (n : Int) := by omega
        have RR := Lib.hid (R0.out wr v F)
        clear F hb
        generalize (cfT R i 0).length = l at *
        go_wp2_with fail
        refine RR.out.mono ?_
        rintro _ w4 ⟨ao4, cap4, rfl, hA, hb4⟩
        have K4 := K.out.on hb4
        have E4 := fun cap => E0.out w4 ao4 cap hA
        clear K hA hb4 RR hc c0_2
        have d2 := (K4.at_ 2 rfl).at_ 0 _ rfl
        have f2 := (K4.at_ 2 rfl).fr 0 _ rfl
        have K5 := K4.put 2 rfl 0 [.float .f64 z0] (by simp)
        replace K5 := Lib.hid K5
        clear K4
        go_wp2_with (first | (go_at_call 28; ((with_reducible refine (E4 _).mono ?_); rintro e w' ⟨rfl, rfl⟩)) | (go_at_call 40; ((with_reducible refine (F0 _).mono ?_); rintro e w' ⟨rfl, rfl⟩)))
        go_roundw
        case rel => exact ⟨0 + 1, by omega, by go_num, K5.out⟩
        case measure => simp [intOf]
      · simp only [Nat.lt_irrefl, Nat.reduceLT, if_true, if_false] at K
        have hil : i < R.length := by have := hn.out; omega
        obtain ⟨b, o, v, rfl, hb, hc, F⟩ := (ha.out.on K.old).at3 hil (show 1 < 3 by omega)
        have c0_2 := (K.at_ 0 rfl).at_ 2 _ rfl
        replace K := Lib.hid K
        have hi2 : (i : Int) < (n : Int) := by omega
        have RR := Lib.hid (R1.out wr v F)
        clear F hb
        generalize (cfT R i 1).length = l at *
        go_wp2_with fail
        refine RR.out.mono ?_
        rintro _ w4 ⟨ao4, cap4, rfl, hA, hb4⟩
        have K4 := K.out.on hb4
        have E4 := fun cap => E1.out w4 ao4 cap hA
        clear K hA hb4 RR hc c0_2
        have d2 := (K4.at_ 2 rfl).at_ 1 _ rfl
        have f2 := (K4.at_ 2 rfl).fr 1 _ rfl
        have K5 := K4.put 2 rfl 1 [.float .f64 z1] (by simp)
        replace K5 := Lib.hid K5
        clear K4
        go_wp2_with (first | (go_at_call 28; ((with_reducible refine (E4 _).mono ?_); rintro e w' ⟨rfl, rfl⟩)) | (go_at_call 40; ((with_reducible refine (F1 _).mono ?_); rintro e w' ⟨rfl, rfl⟩)))
        go_roundw
        case rel => exact ⟨1 + 1, by omega, by go_num, K5.out⟩
        case measure => simp [intOf]
      · simp only [Nat.lt_irrefl, Nat.reduceLT, if_true, if_false] at K
        have hil : i < R.length := by have := hn.out; omega
        obtain ⟨b, o, v, rfl, hb, hc, F⟩ := (ha.out.on K.old).at3 hil (show 2 < 3 by omega)
        have c0_2 := (K.at_ 0 rfl).at_ 2 _ rfl
        replace K := Lib.hid K
        have hi2 : (i : Int) < (n : Int) := by omega
        have RR := Lib.hid (R2.out wr v F)
        clear F hb
        generalize (cfT R i 2).length = l at *
        go_wp2_with fail
        refine RR.out.mono ?_
        rintro _ w4 ⟨ao4, cap4, rfl, hA, hb4⟩
        have K4 := K.out.on hb4
        have E4 := fun cap => E2.out w4 ao4 cap hA
        clear K hA hb4 RR hc c0_2
        have d2 := (K4.at_ 2 rfl).at_ 2 _ rfl
        have f2 := (K4.at_ 2 rfl).fr 2 _ rfl
        have K5 := K4.put 2 rfl 2 [.float .f64 z2] (by simp)
        replace K5 := Lib.hid K5
        clear K4
        go_wp2_with (first | (go_at_call 28; ((with_reducible refine (E4 _).mono ?_); rintro e w' ⟨rfl, rfl⟩)) | (go_at_call 40; ((with_reducible refine (F2 _).mono ?_); rintro e w' ⟨rfl, rfl⟩)))
        go_roundw
        case rel => exact ⟨2 + 1, by omega, by go_num, K5.out⟩
        case measure => simp [intOf]
      · simp only [Nat.reduceLT, if_true] at K
        have d2_0 := (K.at_ 2 rfl).at_ 0 _ rfl
        have d2_1 := (K.at_ 2 rfl).at_ 1 _ rfl
        have d2_2 := (K.at_ 2 rfl).at_ 2 _ rfl
        have c1_0 := (K.at_ 1 rfl).at_ 0 _ rfl
        have c1_1 := (K.at_ 1 rfl).at_ 1 _ rfl
        have c1_2 := (K.at_ 1 rfl).at_ 2 _ rfl
        have f1_0 := (K.at_ 1 rfl).fr 0 _ rfl
        have f1_1 := (K.at_ 1 rfl).fr 1 _ rfl
        have f1_2 := (K.at_ 1 rfl).fr 2 _ rfl
        replace K := Lib.hid K
        clear R0 R1 R2 E0 E1 E2 F0 F1 F2
        go_wp2_with fail
        (try simp only [Exit.inBlock, Exit.then])
        refine bodyPost_ret (v := .tuple #[.agg #[.float .f64 z0, .float .f64 z1, .float .f64 z2], .int .i64 0]) ?_ rfl ⟨rfl, ?_⟩
        · rw [results_cell_tmp rfl]; go_simp
        · exact (((K.out.old).setCell (by first | exact Nat.le_refl _ | omega | (dsimp only; omega)) _).setCell (by first | exact Nat.le_refl _ | omega | (dsimp only; omega)) _).setCell (by first | exact Nat.le_refl _ | omega | (dsimp only; omega)) _
  · rw [if_neg hr] at CP
    rw [if_neg hr]
    generalize rdyT t (inM m24 d) = k at *
    have tk : (k != 0) = true := by simpa using hr
    clear hm hW hU ha hd hr
    unfold tbV z3 at *
    obtain ⟨fr, st, R⟩ := t
    dsimp only at *
    generalize R.length = n at *
    have K0 := kv2 w 34 41 [.float .f64 fr, .float .f64 st, .slice ao n cap] [.float .f64 0, .float .f64 0, .float .f64 0]
    simp only [objV] at K0
    have hst := @fstore
    replace K0 := Lib.hid K0
    have c0_0 := (K0.out.at_ 0 rfl).at_ 0 _ rfl
    have c0_1 := (K0.out.at_ 0 rfl).at_ 1 _ rfl
    have c0_2 := (K0.out.at_ 0 rfl).at_ 2 _ rfl
    go_enter Try.func24, Try.ntmps24
    go_wp2_with fail
    have K := K0.out
    clear K0 c0_0 c0_1 c0_2
    generalize (w.alloc _).alloc _ = wr at *
    refine (CP.out wr K.old).mono ?_
    rintro _ v1 ⟨rfl, hb⟩
    replace K := K.on hb
    clear hb CP
    have c1_0 := (K.at_ 1 rfl).at_ 0 _ rfl
    have c1_1 := (K.at_ 1 rfl).at_ 1 _ rfl
    have c1_2 := (K.at_ 1 rfl).at_ 2 _ rfl
    have f1_0 := (K.at_ 1 rfl).fr 0 _ rfl
    have f1_1 := (K.at_ 1 rfl).fr 1 _ rfl
    have f1_2 := (K.at_ 1 rfl).fr 2 _ rfl
    replace K := Lib.hid K
    go_wp2_with fail
    (try simp only [Exit.inBlock, Exit.then])
    refine bodyPost_ret (v := .tuple #[.agg #[.float .f64 0, .float .f64 0, .float .f64 0], .int .i64 k]) ?_ rfl ⟨rfl, ?_⟩
    · rw [results_cell_tmp rfl]; go_simp
    · exact (((K.out.old).setCell (by first | exact Nat.le_refl _ | omega | (dsimp only; omega)) _).setCell (by first | exact Nat.le_refl _ | omega | (dsimp only; omega)) _).setCell (by first | exact Nat.le_refl _ | omega | (dsimp only; omega)) _
end Go.Proofs.Ytnmadknpkhaolaa

namespace Go.Proofs.Ytnmadknpkhaolaa
open Go.ChangeShapes Go.WideShapes Go.ChangeAt Go.RowKit Ieee.Own

theorem FsAt.drawn {w w' : World} {v : Value} {L : List Nat} (h : FsAt w v L) (d : Drawn w w') : FsAt w' v L := by
  obtain ⟨n, rfl⟩ := d
  exact h
set_option maxHeartbeats 1000000 in
set_option maxRecDepth 100000 in
theorem narrow13_run {v v' : Value} {L : List Nat} (w : World) (hl : L.length ≤ 4611686018427387904) (h : FsAt w v L) (h' : FsAt w v' L) :
    Calls Try.prog 50 #[v, v'] w fun e w' => e = .returned (.bool true) ∧ Drawn w w' := by
  obtain ⟨ao, cap, rfl, -, -, -, ha⟩ := h
  obtain ⟨bo, cap', rfl, -, -, -, hb⟩ := h'
  obtain ⟨n, hn⟩ : ∃ n, n = L.length := ⟨_, rfl⟩
  rw [← hn] at hl ⊢
  replace ha := Lib.hid ha
  replace hb := Lib.hid hb
  replace hn := Lib.hid hn
  go_enter Try.func50, Try.ntmps50
  go_wp2_with fail
  go_loopw [5] (fun iv wr => ∃ i : Nat, i ≤ n ∧ iv = .int .i64 i ∧ Drawn w wr) (fun iv _ => n - (intOf iv).toNat)
  case atStart => exact ⟨0, Nat.zero_le _, rfl, Drawn.refl _⟩
  case round =>
    obtain ⟨i, hi, rfl, hd⟩ := hrel
    by_cases hlt : i < n
    · have hil : i < L.length := by have := hn.out; omega
      obtain ⟨b, o, rfl, -, hc0⟩ := fs_cell ha.out hil
      obtain ⟨b', o', rfl, -, hc1⟩ := fs_cell hb.out hil
      have hc : wr.cell? ⟨b, o + i, none⟩ = some (.float .f32 (L.getD i 0)) := by obtain ⟨m, rfl⟩ := hd; exact hc0
      have hc' : wr.cell? ⟨b', o' + i, none⟩ = some (.float .f32 (L.getD i 0)) := by obtain ⟨m, rfl⟩ := hd; exact hc1
      replace hd := Lib.hid hd
      obtain ⟨u, hu⟩ : ∃ u, u = L.getD i 0 := ⟨_, rfl⟩
      rw [← hu] at hc hc'
      clear hu hil hc0 hc1
      go_wp2_with fail
      have hx := x56w
      go_quiet (fail)
      go_wp2_with fail
      go_roundw
      case rel => exact ⟨i + 1, hlt, by go_num, hd.out.more _⟩
      case measure => simp [intOf]; omega
    · obtain rfl : i = n := by omega
      replace hd := Lib.hid hd
      go_wp2_with fail
      go_ret
      exact ⟨rfl, hd.out⟩
theorem quiet_drH {P : Program} {f : FuncId} {args : Array Value} {w : World} {n : Nat} {v : Value}
    (h : Calls P f args (w.drewN n) fun e w' => e = .returned v ∧ Drawn (w.drewN n) w') : Calls P f args (w.drewN n) fun e w' => e = .returned v ∧ ∃ m, w' = w.drewN m :=
  h.mono fun e w' ⟨h1, h2⟩ => ⟨h1, by obtain ⟨m, rfl⟩ := h2; exact ⟨n + m, by rw [World.drewN_drewN]⟩⟩
set_option maxHeartbeats 2000000 in
set_option maxRecDepth 100000 in
theorem kept13_run {t : Tb} (ao bo : Option Addr) (cap cap' : Nat) (w : World) (hm : t.rows.length ≤ 4611686018427387904) (hl : ∀ i k, k < 3 → (cfT t.rows i k).length ≤ 4611686018427387904) (ha : TbAt w ao t.rows) (hb : TbAt w bo t.rows) :
    Calls Try.prog 26 #[tbV t ao cap, tbV t bo cap'] w fun e w' => e = .returned (.bool true) ∧ Below w.heap.size w w' := by
  unfold tbV
  obtain ⟨n, hn⟩ : ∃ n, n = t.rows.length := ⟨_, rfl⟩
  rw [← hn] at hm ⊢
  generalize t.fr = fr at *
  generalize t.st = st at *
  generalize t.rows = R at *
  have K := kv2 w 34 34 [.float .f64 fr, .float .f64 st, .slice ao n cap] [.float .f64 fr, .float .f64 st, .slice bo n cap']
  have c0 := (K.at_ 0 rfl).at_ 2 _ rfl
  have c1 := (K.at_ 1 rfl).at_ 2 _ rfl
  have TA := Lib.hid (ha.on K.old)
  have TB := Lib.hid (hb.on K.old)
  have hB := Lib.hid K.old
  simp only [objV] at c0 c1 TA TB hB
  replace hn := Lib.hid hn
  replace hl := Lib.hid hl
  clear K ha hb
  go_enter Try.func26, Try.ntmps26
  go_wp2_with fail
  generalize (w.alloc _).alloc _ = w0 at *
  go_loopw [5] (fun iv wr => ∃ i : Nat, i ≤ n ∧ iv = .int .i64 i ∧ Drawn w0 wr) (fun iv _ => n - (intOf iv).toNat)
  case atStart => exact ⟨0, Nat.zero_le _, rfl, Drawn.refl _⟩
  case round =>
    obtain ⟨i, hi, rfl, hd⟩ := hrel
    have d0 : wr.cell? ⟨w.heap.size, 2, none⟩ = some (.slice ao n cap) := by obtain ⟨m, rfl⟩ := hd; exact c0
    replace hd := Lib.hid hd
    by_cases hlt : i < n
    · have hi2 : (i : Int) < (n : Int) := by omega
      go_wp2_with fail
      clear d0
      generalize wr = wq at *
      go_loopw [6] (fun kv wr2 => ∃ k : Nat, k ≤ 3 ∧ kv = .int .i64 k ∧ Drawn w0 wr2) (fun kv _ => 3 - (intOf kv).toNat)
      case atStart => exact ⟨0, by omega, rfl, hd.out⟩
      case round =>
        clear hd
        obtain ⟨k, hk, rfl, hd⟩ := hrel
        by_cases hlk : k < 3
        · have hil : i < R.length := by have := hn.out; omega
          obtain ⟨b, o, v, rfl, -, hca, F⟩ := TA.out.at3 hil hlk
          obtain ⟨b', o', v', rfl, -, hcb, F'⟩ := TB.out.at3 hil hlk
          have d0 : wr.cell? ⟨w.heap.size, 2, none⟩ = some (.slice (some ⟨b, o, none⟩) n cap) := by obtain ⟨m, rfl⟩ := hd; exact c0
          have d1 : wr.cell? ⟨w.heap.size + 1, 2, none⟩ = some (.slice (some ⟨b', o', none⟩) n cap') := by obtain ⟨m, rfl⟩ := hd; exact c1
          have e0 : wr.cell? ⟨b, o + i * 3 + k, none⟩ = some v := by obtain ⟨m, rfl⟩ := hd; exact hca
          have e1 : wr.cell? ⟨b', o' + i * 3 + k, none⟩ = some v' := by obtain ⟨m, rfl⟩ := hd; exact hcb
          have C := fun j => narrow13_run (wr.drewN j) (hl.out i k hlk) ((F.drawn hd).drawn ⟨j, rfl⟩) ((F'.drawn hd).drawn ⟨j, rfl⟩)
          have hk2 : (k : Int) < 3 := by omega
          replace hd := Lib.hid hd
          clear F F' hca hcb hil
          go_wp2_with fail
          go_quiet ((go_at_call 50; with_reducible refine quiet_drH (C _)))
          go_wp2_with fail
          go_roundw
          case rel => exact ⟨k + 1, by omega, by go_num, hd.out.more _⟩
          case measure => first | (simp [intOf]; done) | (simp [intOf]; omega)
        · obtain rfl : k = 3 := by omega
          replace hd := Lib.hid hd
          go_wp2_with fail
          go_roundw
          case rel => exact ⟨i + 1, hlt, by go_num, hd.out⟩
          case measure => simp [intOf]; omega
    · obtain rfl : i = n := by omega
      go_wp2_with fail
      go_ret
      exact ⟨rfl, hB.out.trans (hd.out.below _)⟩
end Go.Proofs.Ytnmadknpkhaolaa
