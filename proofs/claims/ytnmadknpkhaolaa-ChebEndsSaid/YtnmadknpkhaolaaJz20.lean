/- Proved here: what the texts Hra, Hrb, Hrc prove, one behind the other. -/
import Derived.Test.YtnmadknpkhaolaaJz19
import Derived.Test.YtnmadknpkhaolaaJz17

namespace Go.Proofs.Ytnmadknpkhaolaa
open Go.ChangeShapes Go.WideShapes Go.ChangeAt Go.RowKit Ieee.Own

set_option maxRecDepth 100000 in
theorem rec64 : RecT 22 30 1 8 (.float .f64 0) := ⟨Try.underlying22, by kernel_rfl, rfl, by omega⟩
def r64 (L : List Nat) : List (List Value) := L.map fun x => [.float .f64 x]
theorem r64_at {w : World} {ao : Option Addr} {L : List Nat} (h : RAt w ao 1 (r64 L)) : At w ao L := by
  intro j hj
  have e : (r64 L)[j]? = some [.float .f64 (L.getD j 0)] := by unfold r64; simp [hj, List.getD]
  obtain ⟨b, o, eo, -, hc⟩ := h j _ e
  have := hc 0 _ rfl
  rw [Nat.mul_one, Nat.add_zero] at this
  exact ⟨b, o, eo, this⟩
abbrev OwnW (base : Nat) (w : World) (L : List Nat) (v : Value) (w' : World) : Prop := OwnR 30 1 base w (r64 L) v w'
theorem ownW_empty (w : World) : OwnW w.heap.size w [] (.slice (some ⟨w.heap.size, 0, none⟩) 0 0) (w.alloc (.cells #[] 30)) :=
  ⟨(Below.refl _ _).alloc (Nat.le_refl _) _, ownsR_empty w _ _, by simp, ⟨by simp [r64], by simp [r64]⟩⟩
theorem ownW_any {base : Nat} {w w' : World} {L : List Nat} {v : Value} (h : OwnW base w L v w') : ∃ ao m c, v = .slice ao m c := own_any h
theorem ownW_at {base : Nat} {w w' : World} {L : List Nat} {v : Value} (h : OwnW base w L v w') : ∃ ao cap, v = .slice ao L.length cap ∧ L.length ≤ cap ∧ cap ≤ maxLen ∧ At w' ao L := by
  obtain ⟨ao, cap, h1, h2, h3, h4, -, h5⟩ := ownsR_at h.ok h.own
  have e : (r64 L).length = L.length := by unfold r64; simp
  rw [e] at h1 h2
  exact ⟨ao, cap, h1, h2, by first | exact h3 | exact h4, by first | exact r64_at h4 | exact r64_at h3⟩
theorem r64_app (L : List Nat) (x : Nat) : r64 L ++ [[.float .f64 x]] = r64 (L ++ [x]) := by simp [r64]
theorem take_wide {L : List Nat} {i : Nat} (h : i < L.length) : (L.take i).map wideW ++ [wideW (L.getD i 0)] = (L.take (i + 1)).map wideW := by
  have e : L.take (i + 1) = L.take i ++ [L[i]] := by rw [List.take_add_one]; simp [h]
  rw [e, List.map_append]
  simp [List.getD, h]
set_option maxHeartbeats 4000000 in
set_option maxRecDepth 100000 in
theorem rrow_run {v : Value} {L : List Nat} (w : World) (hl : L.length ≤ 1048576) (hw : Ws32 L) (h : FsAt w v L) :
    Calls Try.prog 44 #[v] w fun e w' => ∃ ao cap, e = .returned (.slice ao L.length cap) ∧ At w' ao (L.map wideW) ∧ Below w.heap.size w w' := by
  obtain ⟨ao, cap, rfl, -, -, -, ha⟩ := h
  obtain ⟨n, hn⟩ : ∃ n, n = L.length := ⟨_, rfl⟩
  rw [← hn] at hl ⊢
  have N0 := Lib.hid (ownW_empty w)
  replace hn := Lib.hid hn
  replace ha := Lib.hid ha
  replace hw := Lib.hid hw
  go_enter Try.func44, Try.ntmps44
  go_wp2_with fail
  go_loopw [4, 3] (fun iv sv wr => ∃ i : Nat, i ≤ n ∧ iv = .int .i64 i ∧ OwnW w.heap.size w ((L.take i).map wideW) sv wr) (fun iv _ _ => n - (intOf iv).toNat)
  case atStart => exact ⟨0, Nat.zero_le _, rfl, N0.out⟩
  case round =>
    obtain ⟨i, hi, rfl, N⟩ := hrel
    replace N := Lib.hid N
    by_cases hlt : i < n
    · have hil : i < L.length := by have := hn.out; omega
      obtain ⟨b, o, rfl, hb, hc0⟩ := fs_cell ha.out hil
      have hc : wr.cell? ⟨b, o + i, none⟩ = some (.float .f32 (L.getD i 0)) := by
        rw [← hc0]
        exact World.cell?_of_block (a := ⟨b, o + i, none⟩) (N.out.old.block b hb)
      have C := fun w => rwide_run _ (ws_at hw.out i) w
      have TW := Lib.hid (take_wide hil)
      have lt : ((L.take i).map wideW).length = i := by simp; omega
      have li : i ≤ 1048576 := by omega
      obtain ⟨u, hu⟩ : ∃ u, u = L.getD i 0 := ⟨_, rfl⟩
      obtain ⟨M, hM⟩ : ∃ M, M = (L.take i).map wideW := ⟨_, rfl⟩
      rw [← hu] at hc C TW
      rw [← hM] at N TW lt
      have lM : (r64 M).length ≤ 1048576 := by unfold r64; rw [List.length_map, lt]; exact li
      replace lM := Lib.hid lM
      obtain ⟨ao', m', c', rfl⟩ := ownW_any N.out
      clear hc0 hu hM lt li hil
      replace hb := Lib.hid hb
      go_wp2_with (first | (go_at_call 32; ((with_reducible refine (C _).mono ?_); rintro e w' ⟨rfl, rfl⟩)) | (at_builtin; go_loud (refine wpList_pushR rec64 rfl _ _ rfl (.slice ao' m' c') (r64 M) rfl N.out [.float .f64 (wideW u)] rfl ?pa rfl ?pc ?pd ?_)))
      case pa => intro u hu; rw [List.mem_singleton.1 hu]; rfl
      case pc => have := lM.out; omega
      case pd => have := lM.out; unfold maxLen; omega
      intro v' w' N'
      rw [r64_app, TW.out] at N'
      replace N' := Lib.hid N'
      clear N C hc
      go_wp2_with fail
      go_roundw
      case rel => exact ⟨i + 1, by omega, by go_num, N'.out⟩
      case measure => simp [intOf]; omega
    · have e : (L.take i).map wideW = L.map wideW := by rw [List.take_of_length_le (by have := hn.out; omega)]
      rw [e] at N
      obtain ⟨ao', cap', rfl, -, -, hA⟩ := ownW_at N.out
      rw [List.length_map, ← hn.out] at *
      replace hA := Lib.hid hA
      go_wp2_with fail
      go_ret
      exact ⟨_, ⟨_, rfl⟩, hA.out, N.out.old⟩
end Go.Proofs.Ytnmadknpkhaolaa

namespace Go.Proofs.Ytnmadknpkhaolaa
open Go.ChangeShapes Go.WideShapes Go.ChangeAt Go.RowKit Ieee.Own

set_option maxRecDepth 100000 in
theorem rtime_run (x : Nat) (hx : x < 18446744073709551616) (w : World) :
    Calls Try.prog 43 #[.float .f64 x, .float .f64 4715268809856909312] w fun e w' => e = .returned (.bool (inM m24 x)) ∧ w = w' := by
  have CF := fun w => rfit_any x hx w
  have g1 := o_leq x 4715268809856909312 hx (by omega)
  have g2 := o_geq x 13938640846711685120 hx (by omega)
  have hneg : ∀ w, (Op.unary .neg (.float .f64 4715268809856909312)).run Try.prog w = .ok (.float .f64 13938640846711685120) w := fun w => rfl
  by_cases h1 : fitB x = true
  · have fn := fit_fin hx h1
    have m := fn.2
    rw [h1] at CF
    have n1 : nn x := fin_nn fn
    have n2 : nn 4715268809856909312 := by unfold nn; omega
    have n3 : nn 13938640846711685120 := by unfold nn; omega
    have k2 : key64 4715268809856909312 = 4715268809856909312 := by decide
    have k3 : key64 13938640846711685120 = -4715268809856909312 := by decide
    rw [k2] at g1
    rw [k3] at g2
    have kx : key64 x = if x < 9223372036854775808 then (x : Int) else 9223372036854775808 - (x : Int) := rfl
    by_cases c1 : key64 x ≤ 4715268809856909312
    · rw [decide_eq_true ⟨n1, n2, c1⟩] at g1
      by_cases c2 : -4715268809856909312 ≤ key64 x
      · have e : inM m24 x = true := by unfold inM m24; rw [decide_eq_true_eq]; exact ⟨h1, by split at kx <;> omega⟩
        rw [e]
        rw [decide_eq_true ⟨n1, n3, c2⟩] at g2
        clear hx h1 fn m e n1 n2 n3 k2 k3 kx c1 c2
        go_enter Try.func43, Try.ntmps43
        go_wp2_with (go_at_call 51; ((with_reducible refine (CF _).mono ?_); rintro e w' ⟨rfl, rfl⟩))
        go_ret
        exact ⟨rfl, rfl⟩
      · have e : inM m24 x = false := by unfold inM m24; rw [decide_eq_false_iff_not]; exact fun h => by have := h.2; split at kx <;> omega
        rw [e]
        rw [decide_eq_false (fun h => c2 h.2.2)] at g2
        clear hx h1 fn m e n1 n2 n3 k2 k3 kx c1 c2
        go_enter Try.func43, Try.ntmps43
        go_wp2_with (go_at_call 51; ((with_reducible refine (CF _).mono ?_); rintro e w' ⟨rfl, rfl⟩))
        go_ret
        exact ⟨rfl, rfl⟩
    · have e : inM m24 x = false := by unfold inM m24; rw [decide_eq_false_iff_not]; exact fun h => by have := h.2; split at kx <;> omega
      rw [e]
      rw [decide_eq_false (fun h => c1 h.2.2)] at g1
      clear hx h1 fn m e n1 n2 n3 k2 k3 kx c1 g2
      go_enter Try.func43, Try.ntmps43
      go_wp2_with (go_at_call 51; ((with_reducible refine (CF _).mono ?_); rintro e w' ⟨rfl, rfl⟩))
      go_ret
      exact ⟨rfl, rfl⟩
  · have e : inM m24 x = false := by unfold inM; rw [decide_eq_false_iff_not]; exact fun h => h1 h.1
    rw [Bool.not_eq_true] at h1
    rw [h1] at CF
    rw [e]
    clear hx h1 e g1 g2 hneg
    go_enter Try.func43, Try.ntmps43
    go_wp2_with (go_at_call 51; ((with_reducible refine (CF _).mono ?_); rintro e w' ⟨rfl, rfl⟩))
    go_ret
    exact ⟨rfl, rfl⟩
set_option maxRecDepth 100000 in
theorem rfine_run (x : Nat) (hx : x < 18446744073709551616) (w : World) : Calls Try.prog 40 #[.float .f64 x] w fun e w' => e = .returned (.float .f64 (bgW x)) ∧ w = w' := by
  have CF := fun w => rfit_any x hx w
  unfold bgW
  generalize fitB x = b at *
  clear hx
  cases b
  · go_enter Try.func40, Try.ntmps40
    go_wp2_with (go_at_call 51; ((with_reducible refine (CF _).mono ?_); rintro e w' ⟨rfl, rfl⟩))
    go_ret
    exact ⟨rfl, rfl⟩
  · go_enter Try.func40, Try.ntmps40
    go_wp2_with (go_at_call 51; ((with_reducible refine (CF _).mono ?_); rintro e w' ⟨rfl, rfl⟩))
    go_ret
    exact ⟨rfl, rfl⟩
/-- a step: the two ways to ask -/
theorem st_ref {x : Nat} (hx : x < 18446744073709551616) : (lowB x && topB x) = (inM m24 x && !(FloatKind.f64.format.order x 4562146422526312448 == some Ordering.lt)) := by
  rw [o_lss x 4562146422526312448 hx (by omega)]
  have k1 : key64 4562146422526312448 = 4562146422526312448 := by decide
  have k2 : key64 4715268809856909312 = 4715268809856909312 := by decide
  have n1 : nn 4562146422526312448 := by unfold nn; omega
  have n2 : nn 4715268809856909312 := by unfold nn; omega
  have kx : key64 x = if x < 9223372036854775808 then (x : Int) else 9223372036854775808 - (x : Int) := rfl
  unfold lowB topB inM m24 s10
  rw [k1, k2, Bool.eq_iff_iff]
  simp only [Bool.and_eq_true, decide_eq_true_eq, Bool.not_eq_true', decide_eq_false_iff_not]
  constructor
  · rintro ⟨⟨-, a1, a2⟩, -, -, a3⟩
    have p : x < 9223372036854775808 := by split at kx <;> omega
    rw [if_pos p] at kx
    refine ⟨⟨?_, by omega⟩, fun h => by omega⟩
    unfold fitB
    rw [decide_eq_true_eq]
    right
    omega
  · rintro ⟨⟨a1, a2⟩, a3⟩
    have nx : nn x := by
      have := (fit_fin hx a1).2
      unfold nn; omega
    have a4 : ¬ key64 x < 4562146422526312448 := fun h => a3 ⟨nx, n1, h⟩
    exact ⟨⟨n1, nx, by omega⟩, nx, n2, by split at kx <;> omega⟩
structure TbUp (t : Tb) : Prop where
  l : ∀ i k, k < 3 → (cfT t.rows i k).length ≤ 1048576
theorem may_err {L : List Nat} : mayB L = true ↔ errC (L.map wideW) = 0 := by
  unfold mayB
  simp only [Bool.and_eq_true, decide_eq_true_eq]
  refine ⟨fun h => h.2, fun h => ⟨?_, h⟩⟩
  by_cases c : L.length ≤ 16
  · exact c
  · have : errC (L.map wideW) = 2 := by unfold errC; rw [if_pos (by rw [List.length_map]; omega)]
    rw [this] at h
    exact absurd h (by decide)
theorem row_all {T : List (List (List Nat))} {i : Nat} (h : ∀ k, k < 3 → mayB (cfT T i k) = true) : rowB T i = true := by
  unfold rowB
  rw [h 0 (by omega), h 1 (by omega), h 2 (by omega)]; rfl
theorem row_bad {T : List (List (List Nat))} {i k : Nat} (hk : k < 3) (h : mayB (cfT T i k) = false) : rowB T i = false := by
  unfold rowB
  have : k = 0 ∨ k = 1 ∨ k = 2 := by omega
  rcases this with rfl | rfl | rfl <;> rw [h] <;> simp
set_option maxHeartbeats 4000000 in
set_option maxRecDepth 100000 in
theorem rcheck13_run {t : Tb} (ao : Option Addr) (cap : Nat) (w : World) (hm : t.rows.length ≤ 4611686018427387904) (hW : TbW t) (hU : TbUp t) (ha : TbAt w ao t.rows) :
    Calls Try.prog 18 #[tbV t ao cap] w fun e w' => e = .returned (.int .i64 (chkT t)) ∧ Below w.heap.size w w' := by
  obtain ⟨V, hV⟩ : ∃ V, V = chkT t := ⟨_, rfl⟩
  rw [← hV]
  obtain ⟨n, hn⟩ : ∃ n, n = t.rows.length := ⟨_, rfl⟩
  unfold tbV
  rw [← hn] at hm ⊢
  have K := kv1 w 34 [.float .f64 t.fr, .float .f64 t.st, .slice ao n cap]
  simp only [objV] at K
  have k0 := (K.at_ 0 rfl).at_ 0 _ rfl
  have k1 := (K.at_ 0 rfl).at_ 1 _ rfl
  have k2 := (K.at_ 0 rfl).at_ 2 _ rfl
  have CT := fun w => rtime_run t.fr hW.fr w
  have CS := fun w => rtime_run t.st hW.st w
  have SR := st_ref hW.st
  obtain ⟨lt, hlt⟩ : ∃ lt, lt = (FloatKind.f64.format.order t.st 4562146422526312448 == some Ordering.lt) := ⟨_, rfl⟩
  rw [← hlt] at SR
  have g1 := hlt.symm
  clear hlt
  by_cases hl : 64 < n
  · replace hV := Lib.hid (hV.trans (chkT_long (by omega)))
    have t1 : decide (64 < n) = true := decide_eq_true hl
    replace K := Lib.hid K
    clear hn ha hW CT CS g1 SR hU
    go_enter Try.func18, Try.ntmps18
    go_wp2_with fail
    go_ret
    exact ⟨ret_iH hV.out.symm, K.out.old⟩
  · have t1 : decide (64 < n) = false := decide_eq_false hl
    have step : Hid ((inM m24 t.fr && (inM m24 t.st && !lt)) = false → V = 130) := fun h => hV.trans (chkT_step (by omega) (by rw [SR]; exact h))
    cases h0 : inM m24 t.fr with
    | false =>
      rw [h0] at CT step
      replace hV := Lib.hid (step.out rfl)
      replace K := Lib.hid K
      clear step h0 hn ha hW g1 SR CS hU
      go_enter Try.func18, Try.ntmps18
      go_wp2_with (go_at_call 43; ((with_reducible refine (CT _).mono ?_); rintro e w' ⟨rfl, rfl⟩))
      go_ret
      exact ⟨ret_iH hV.out.symm, K.out.old⟩
    | true =>
      rw [h0] at CT step
      cases h1 : inM m24 t.st with
      | false =>
        rw [h1] at CS step
        replace hV := Lib.hid (step.out rfl)
        replace K := Lib.hid K
        clear step h0 h1 hn ha hW g1 SR hU
        go_enter Try.func18, Try.ntmps18
        go_wp2_with (first | (go_at_call 43; ((with_reducible refine (CT _).mono ?_); rintro e w' ⟨rfl, rfl⟩)) | (go_at_call 43; ((with_reducible refine (CS _).mono ?_); rintro e w' ⟨rfl, rfl⟩)))
        go_ret
        exact ⟨ret_iH hV.out.symm, K.out.old⟩
      | true =>
        rw [h1] at CS step SR
        cases lt with
        | true =>
          replace hV := Lib.hid (step.out rfl)
          replace K := Lib.hid K
          clear step h0 h1 hn ha hW SR hU
          go_enter Try.func18, Try.ntmps18
          go_wp2_with (first | (go_at_call 43; ((with_reducible refine (CT _).mono ?_); rintro e w' ⟨rfl, rfl⟩)) | (go_at_call 43; ((with_reducible refine (CS _).mono ?_); rintro e w' ⟨rfl, rfl⟩)))
          go_ret
          exact ⟨ret_iH hV.out.symm, K.out.old⟩
        | false =>
          have lt2 : lowB t.st = true ∧ topB t.st = true := by
            have := SR
            simpa using this
          have good : Hid ((∀ j, j < n → rowB t.rows j = true) → V = 0) := fun h => hV.trans (chkT_good (by omega) h0 lt2.1 lt2.2 (by rw [← hn]; exact h))
          have bad : Hid (∀ i k, i < n → k < 3 → mayB (cfT t.rows i k) = false → V = 130) := fun i k hi hk h => hV.trans (chkT_bad (by omega) (by rw [← hn]; exact hi) (row_bad hk h))
          have hws : Hid (∀ i k, Ws32 (cfT t.rows i k)) := Lib.hid hW.w
          replace hU := Lib.hid hU.l
          replace K := Lib.hid K
          clear step h0 h1 hV hW SR lt2
          replace hn := Lib.hid hn
          replace ha := Lib.hid ha
          go_enter Try.func18, Try.ntmps18
          go_wp2_with (first | (go_at_call 43; ((with_reducible refine (CT _).mono ?_); rintro e w' ⟨rfl, rfl⟩)) | (go_at_call 43; ((with_reducible refine (CS _).mono ?_); rintro e w' ⟨rfl, rfl⟩)))
          clear k0 k1 k2 CT CS g1
          go_loopw [3] (fun iv wr => ∃ i : Nat, i ≤ n ∧ iv = .int .i64 i ∧ (∀ j, j < i → rowB t.rows j = true) ∧ Kv w [some (w.heap.size, [.float .f64 t.fr, .float .f64 t.st, .slice ao n cap])] wr) (fun iv _ => n - (intOf iv).toNat)
          case atStart => exact ⟨0, Nat.zero_le _, rfl, fun j hj => by omega, K.out⟩
          case round =>
            clear K
            obtain ⟨i, hi, rfl, ho, K⟩ := hrel
            have k2 := (K.at_ 0 rfl).at_ 2 _ rfl
            replace K := Lib.hid K
            replace ho := Lib.hid ho
            by_cases hlt : i < n
            · have hi2 : (i : Int) < (n : Int) := by omega
              go_wp2_with fail
              clear k2
              generalize wr = wq at *
              go_loopw [4] (fun kv wr2 => ∃ k : Nat, k ≤ 3 ∧ kv = .int .i64 k ∧ (∀ q, q < k → mayB (cfT t.rows i q) = true) ∧ Kv w [some (w.heap.size, [.float .f64 t.fr, .float .f64 t.st, .slice ao n cap])] wr2) (fun kv _ => 3 - (intOf kv).toNat)
              case atStart => exact ⟨0, by omega, rfl, fun q hq => by omega, K.out⟩
              case round =>
                clear K
                obtain ⟨k, hk, rfl, ho2, K⟩ := hrel
                by_cases hlk : k < 3
                · have hil : i < t.rows.length := by have := hn.out; omega
                  obtain ⟨b, o, v, rfl, hb, hc, F⟩ := (ha.out.on K.old).at3 hil hlk
                  have k2 := (K.at_ 0 rfl).at_ 2 _ rfl
                  have R := fun W hb => rrow_run W (hU.out i k hlk) (hws.out i k) (F.on (w' := W) hb)
                  have E : Hid (∀ W ao cap, At W ao ((cfT t.rows i k).map wideW) → Calls Try.prog 27 #[.slice ao (cfT t.rows i k).length cap] W fun e w' => e = .returned (.int .i64 (errC ((cfT t.rows i k).map wideW))) ∧ W = w') :=
                    Lib.hid fun W ao cap h => rpcheck_run ao cap _ _ W (by rw [List.length_map]) (by have := hU.out i k hlk; omega) (ws_wide (hws.out i k)) h
                  have M := may_err (L := cfT t.rows i k)
                  have B := Lib.hid (bad.out i k hlt hlk)
                  have G : Hid (mayB (cfT t.rows i k) = true → ∀ q, q < k + 1 → mayB (cfT t.rows i q) = true) := Lib.hid fun h q hq => by
                    by_cases e : q < k
                    · exact ho2 q e
                    · have e : q = k := by omega
                      rw [e]; exact h
                  generalize hLL : cfT t.rows i k = L at *
                  replace K := Lib.hid K
                  replace R := Lib.hid R
                  have hk2 : (k : Int) < 3 := by omega
                  clear F hb ho2 hLL hil
                  generalize L.length = l at *
                  generalize errC (L.map wideW) = ec at *
                  by_cases z : ec = 0
                  · subst z
                    have G2 := Lib.hid (G.out (M.2 rfl))
                    clear G B M
                    go_wp2_with fail
                    refine (R.out _ (Below.refl _ _)).mono ?_
                    rintro _ w4 ⟨ao4, cap4, rfl, hA, hb4⟩
                    have K4 := Lib.hid (K.out.on hb4)
                    have E4 := fun cap => E.out w4 ao4 cap hA
                    clear K hA hb4 R E hc k2
                    go_wp2_with (go_at_call 27; ((with_reducible refine (E4 _).mono ?_); rintro e w' ⟨rfl, rfl⟩))
                    go_roundw
                    case rel => exact ⟨k + 1, by omega, by go_num, G2.out, K4.out⟩
                    case measure => first | (simp [intOf]; done) | (simp [intOf]; omega)
                  · have B2 := Lib.hid (B.out (by
                      cases h : mayB L with
                      | false => rfl
                      | true => exact absurd (M.1 h) z))
                    have tz : (ec != 0) = true := by simpa using z
                    clear G B M z
                    go_wp2_with fail
                    refine (R.out _ (Below.refl _ _)).mono ?_
                    rintro _ w4 ⟨ao4, cap4, rfl, hA, hb4⟩
                    have K4 := Lib.hid (K.out.on hb4)
                    have E4 := fun cap => E.out w4 ao4 cap hA
                    clear K hA hb4 R E hc k2
                    go_wp2_with (go_at_call 27; ((with_reducible refine (E4 _).mono ?_); rintro e w' ⟨rfl, rfl⟩))
                    go_ret
                    exact ⟨ret_iH B2.out.symm, K4.out.old⟩
                · obtain rfl : k = 3 := by omega
                  have ho3 : Hid (∀ j, j < i + 1 → rowB t.rows j = true) := Lib.hid fun j hj => by
                    by_cases e : j < i
                    · exact ho.out j e
                    · have e : j = i := by omega
                      rw [e]; exact row_all ho2
                  replace K := Lib.hid K
                  clear ho2 ho
                  go_wp2_with fail
                  go_roundw
                  case rel => exact ⟨i + 1, hlt, by go_num, ho3.out, K.out⟩
                  case measure => simp [intOf]; omega
            · obtain rfl : i = n := by omega
              go_wp2_with fail
              go_ret
              exact ⟨ret_iH (good.out ho.out).symm, K.out.old⟩
end Go.Proofs.Ytnmadknpkhaolaa

namespace Go.Proofs.Ytnmadknpkhaolaa
open Go.ChangeShapes Go.WideShapes Go.ChangeAt Go.RowKit Ieee.Own Pol

theorem small_53 {q : Int} {k n : Nat} (hk : k = q.toNat) (_h : 0 ≤ q) (g : q < n) (hn : n ≤ 64) : (k : Int).natAbs ≤ 2 ^ 53 := by omega
theorem bg_V {a b : Nat} (fa : FinW a) (fb : FinW b) (h : V a = V b) : V (bgW a) = V (bgW b) := by
  have k : fitB a = fitB b := by
    rw [Bool.eq_iff_iff, fit_iff fa, fit_iff fb, h]
  unfold bgW
  rw [k]
  by_cases c : fitB b = true
  · rw [if_pos c, if_pos c, h]
  · rw [if_neg c, if_neg c]
structure RfOk (y w : Nat) : Prop where
  s : Ieee.double.sub y w = some (lX y w)
  m : Ieee.double.mul (lX y w) twoW = some (mX (lX y w) twoW)
  l : Ieee.double.sub (mX (lX y w) twoW) oneW = some (lX (mX (lX y w) twoW) oneW)
  f : FinW (lX (mX (lX y w) twoW) oneW)
  a : Ieee.double.add (bgW (lX (mX (lX y w) twoW) oneW)) 0 = some (bgW (fH y))
theorem rf_ok {y w : Nat} (fy : FinW y) (by_ : (V y).natAbs ≤ 2 ^ 1126) (h0 : 0 ≤ V y) (fw : FinW w) (vw : V w = V y / 2 ^ 1074 * 2 ^ 1074) : RfOk y w := by
  have F := f_ok fy by_ h0
  have U0 := pow1 1074
  have r3 : Rep (-2 ^ 1074 : Int) := by have := Rep_V moneW; rwa [moneW_V.2] at this
  have fl := f_step U0 rep_one rep_two r3 (y := V y) rfl rfl rfl rfl
  have wb : (V w).natAbs ≤ 2 ^ 1126 := by
    rw [vw]
    exact floor_abs U0 h0 by_
  obtain ⟨s1, s2, s3, -⟩ := sub_ok (i := 1126) (k := 1127) fy fw by_ wb (by omega) (by omega)
  rw [vw] at s3
  have sb : (V (lX y w)).natAbs ≤ 2 ^ 1074 := nat_cap (k := 1074) (by rw [s3]; exact fl.1) (by rw [s3]; exact fl.2.1)
  have hN : V (lX y w) * V twoW = (2 * V (lX y w)) * 2 ^ 1074 := by
    rw [twoW_V.2, ← Int.mul_assoc, Int.mul_comm _ 2]
  have hb : (2 * V (lX y w)).natAbs ≤ 2 ^ 1075 := dbl_le (k := 1074) (l := 1075) (by omega) sb
  obtain ⟨r, m1, m2, m3⟩ := mulW s2 twoW_V.1 hN hb (by omega)
  have er : mX (lX y w) twoW = r := by unfold mX; rw [m1]; rfl
  rw [← er] at m1 m2 m3
  rw [← s3, ← m3] at fl
  have mb : (V (mX (lX y w) twoW)).natAbs ≤ 2 ^ 1075 := cap_dbl (k := 1074) (l := 1075) (by omega) fl.2.2.1 fl.2.2.2.1
  have ob : (V oneW).natAbs ≤ 2 ^ 1075 := by decide +kernel
  obtain ⟨l1, l2, l3, -⟩ := sub_ok (i := 1075) (k := 1076) m2 oneW_V.1 mb ob (by omega) (by omega)
  rw [oneW_V.2] at l3
  have e1 : V (lX y w) = V (lX y (wholeW .down y)) := s3.trans F.sv.symm
  have e2 : V (mX (lX y w) twoW) = V (mX (lX y (wholeW .down y)) twoW) := by rw [m3, F.mv, e1]
  have e3 : V (lX (mX (lX y w) twoW) oneW) = V (fH y) := by rw [l3, F.v, e2]
  have e4 : posW (bgW (lX (mX (lX y w) twoW) oneW)) = bgW (fH y) := (Nz.pos (bg_fin l2)).uniq (bg_nz F.nz) (by rw [posW_V]; exact bg_V l2 F.nz.fin e3)
  exact ⟨s1, m1, l1, l2, by rw [pos_add (bg_fin l2), e4]⟩
set_option maxHeartbeats 4000000 in
set_option maxRecDepth 100000 in
theorem rplace_run {t : Tb} {d : Nat} (ao : Option Addr) (cap : Nat) (w : World) (hn : t.rows.length ≤ 64) (h0 : 0 < t.rows.length) (Y : YOk t d) :
    Calls Try.prog 47 #[tbV t ao cap, .float .f64 d] w fun e w' => e = .returned (plcE (plc t d)) ∧ Below w.heap.size w w' := by
  have r1 := run_sub _ _ _ Y.s
  have r2 := run_div _ _ _ Y.q
  have l1 := le_words Y.fin zero_fin
  have U0 := pow1 1074
  obtain ⟨nf, nv⟩ := of_int (t.rows.length : Int) (by omega)
  have l2 := ge_words Y.fin nf
  rw [nv] at l2
  rw [V_zero] at l1
  have cv := fun w => conv_if t.rows.length w
  have ec : (((t.rows.length - 1 : Nat)) : Int) = (t.rows.length : Int) - 1 := by omega
  unfold tbV plcE
  by_cases c1 : V (yH t d) ≤ 0
  · rw [plc_one c1]
    rw [decide_eq_true c1] at l1
    clear l2 nf nv cv ec Y c1 hn h0
    generalize yH t d = y at *
    generalize lX d t.fr = x at *
    unfold moneW
    obtain ⟨fr, st, R⟩ := t
    dsimp only at *
    generalize R.length = n at *
    have hst := @fstore
    have K := kv1 w 34 [.float .f64 fr, .float .f64 st, .slice ao n cap]
    simp only [objV] at K
    have k0 := (K.at_ 0 rfl).at_ 0 _ rfl
    have k1 := (K.at_ 0 rfl).at_ 1 _ rfl
    have k2 := (K.at_ 0 rfl).at_ 2 _ rfl
    replace K := Lib.hid K
    go_enter Try.func47, Try.ntmps47
    go_wp2_with fail
    go_ret2
    exact ⟨rfl, K.out.old⟩
  · rw [decide_eq_false c1] at l1
    by_cases c2 : (t.rows.length : Int) * 2 ^ 1074 ≤ V (yH t d)
    · rw [plc_two c1 c2]
      rw [decide_eq_true c2] at l2
      dsimp only
      rw [ec]
      have w1 : IntKind.i64.wrap ((t.rows.length : Int) - 1) = (t.rows.length : Int) - 1 := by rw [IntKind.wrap_i64]; omega
      clear nf nv ec Y c1 c2
      generalize yH t d = y at *
      generalize lX d t.fr = x at *
      unfold oneW
      obtain ⟨fr, st, R⟩ := t
      dsimp only at *
      generalize R.length = n at *
      generalize FloatKind.f64.nearest (n : Int) = fn at *
      have hst := @fstore
      have K := kv1 w 34 [.float .f64 fr, .float .f64 st, .slice ao n cap]
      simp only [objV] at K
      have k0 := (K.at_ 0 rfl).at_ 0 _ rfl
      have k1 := (K.at_ 0 rfl).at_ 1 _ rfl
      have k2 := (K.at_ 0 rfl).at_ 2 _ rfl
      replace K := Lib.hid K
      go_enter Try.func47, Try.ntmps47
      go_wp2_with fail
      go_ret2
      exact ⟨rfl, K.out.old⟩
    · rw [plc_three c1 c2]
      rw [decide_eq_false c2] at l2
      have F := f_ok Y.fin Y.abs (by omega)
      have FL := fun w => floor_run Y.fin w
      have fl := floor_lt U0 (show 0 ≤ V (yH t d) by omega) c2
      obtain ⟨k, hk⟩ : ∃ k : Nat, k = (V (yH t d) / 2 ^ 1074).toNat := ⟨_, rfl⟩
      have hk2 : (k : Int) = V (yH t d) / 2 ^ 1074 := by rw [hk, to_nat_of fl.1]
      have k64 := small_k hk fl.1 fl.2 hn
      have k53 := small_53 hk fl.1 fl.2 hn
      have ck := fun w => conv_fl (K := (k : Int)) (to_int64 F.wf (by rw [F.wv, hk2]) k64) w
      obtain ⟨kf, kv⟩ := of_int (k : Int) k53
      have ci := fun w => conv_if k w
      have G := rf_ok Y.fin Y.abs (by omega) kf (by rw [kv, hk2])
      have r3 := run_sub _ _ _ G.s
      have r4 := run_mul _ _ _ G.m
      have r5 := run_sub _ _ _ G.l
      have r6 := run_add _ _ _ G.a
      have CB := fun w => rfine_run _ G.f.1 w
      rw [← hk]
      unfold twoW at r4 r5 r6 CB
      unfold oneW at r5 r6 CB
      clear nf nv ec Y c1 c2 F fl hk hk2 k64 k53 kf kv G
      generalize bgW (fH (yH t d)) = z at *
      generalize yH t d = y at *
      generalize lX d t.fr = x at *
      generalize wholeW .down y = wy at *
      generalize FloatKind.f64.nearest (k : Int) = wk at *
      generalize lX y wk = q1 at *
      generalize mX q1 4611686018427387904 = q2 at *
      generalize lX q2 4607182418800017408 = q3 at *
      generalize bgW q3 = q4 at *
      obtain ⟨fr, st, R⟩ := t
      dsimp only at *
      generalize R.length = n at *
      generalize FloatKind.f64.nearest (n : Int) = fn at *
      have hst := @fstore
      have K := kv1 w 34 [.float .f64 fr, .float .f64 st, .slice ao n cap]
      simp only [objV] at K
      have k0 := (K.at_ 0 rfl).at_ 0 _ rfl
      have k1 := (K.at_ 0 rfl).at_ 1 _ rfl
      have k2 := (K.at_ 0 rfl).at_ 2 _ rfl
      replace K := Lib.hid K
      go_enter Try.func47, Try.ntmps47
      go_wp2_with (first | (go_at_call 68; ((with_reducible refine (FL _).mono ?_); rintro e w' ⟨rfl, rfl⟩)) | (go_at_call 40; ((with_reducible refine (CB _).mono ?_); rintro e w' ⟨rfl, rfl⟩)))
      go_ret2
      exact ⟨rfl, K.out.old⟩
set_option maxHeartbeats 4000000 in
set_option maxRecDepth 100000 in
theorem rpiece_run {t : Tb} {d : Nat} (ao : Option Addr) (cap : Nat) (w : World) (hm : t.rows.length ≤ 4611686018427387904) (hW : TbW t) (hU : TbUp t) (ha : TbAt w ao t.rows) (hd : d < 18446744073709551616) :
    Calls Try.prog 21 #[tbV t ao cap, .float .f64 d] w fun e w' => e = .returned (pieE t d) ∧ Below w.heap.size w w' := by
  have CC : Hid (∀ W, Below w.heap.size w W → Calls Try.prog 18 #[tbV t ao cap] W fun e w' => e = .returned (.int .i64 (chkT t)) ∧ Below W.heap.size W w') := Lib.hid fun W hb => rcheck13_run ao cap W hm hW hU (ha.on hb)
  have CT := fun w => rtime_run d hd w
  have CP : Hid (rdyT t (inM m24 d) = 0 → ∀ W, Calls Try.prog 47 #[tbV t ao cap, .float .f64 d] W fun e w' => e = .returned (plcE (plc t d)) ∧ Below W.heap.size W w') := Lib.hid fun hr W => by
    obtain ⟨c0, c1, c2⟩ := rdyT_zero hr
    have KO := chkT_zero c0
    exact rplace_run ao cap W KO.len c2 (y_ok KO hW hd c1)
  unfold pieE
  have er : rdyT t (inM m24 d) = if chkT t ≠ 0 then chkT t else if inM m24 d = false ∨ t.rows.length = 0 then 80 else 0 := rfl
  unfold plcE at CP
  rw [er] at CP ⊢
  clear er hW hU ha hd
  generalize chkT t = c at *
  generalize inM m24 d = b at *
  generalize plc t d = P at *
  obtain ⟨i, x⟩ := P
  dsimp only at *
  unfold tbV at *
  obtain ⟨fr, st, R⟩ := t
  dsimp only at *
  generalize R.length = n at *
  obtain ⟨A, hA⟩ : ∃ A, A = (if (if c ≠ 0 then c else if b = false ∨ n = 0 then 80 else 0) = 0 then Value.tuple #[.int .i64 (i : Int), .float .f64 x, .int .i64 0] else .tuple #[.int .i64 0, .float .f64 0, .int .i64 (if c ≠ 0 then c else if b = false ∨ n = 0 then 80 else 0)]) := ⟨_, rfl⟩
  rw [← hA]
  replace hA := Lib.hid hA
  have K0 := kv1 w 34 [.float .f64 fr, .float .f64 st, .slice ao n cap]
  simp only [objV] at K0
  have c0_0 := (K0.at_ 0 rfl).at_ 0 _ rfl
  have c0_1 := (K0.at_ 0 rfl).at_ 1 _ rfl
  have c0_2 := (K0.at_ 0 rfl).at_ 2 _ rfl
  have hst := @fstore
  replace K0 := Lib.hid K0
  go_enter Try.func21, Try.ntmps21
  go_wp2_with fail
  have K := K0.out
  clear K0 c0_0 c0_1 c0_2
  generalize w.alloc _ = wr at *
  refine (CC.out wr K.old).mono ?_
  rintro _ v1 ⟨rfl, hb⟩
  replace K := K.on hb
  clear hb CC
  have c0_0 := (K.at_ 0 rfl).at_ 0 _ rfl
  have c0_1 := (K.at_ 0 rfl).at_ 1 _ rfl
  have c0_2 := (K.at_ 0 rfl).at_ 2 _ rfl
  by_cases hc : c = 0
  · subst hc
    cases b with
    | false =>
      have hA2 : A = .tuple #[.int .i64 0, .float .f64 0, .int .i64 80] := by rw [hA.out]; simp
      replace hA2 := Lib.hid hA2
      clear hA
      replace K := Lib.hid K
      clear CP
      go_wp2_with (go_at_call 43; ((with_reducible refine (CT _).mono ?_); rintro e w' ⟨rfl, rfl⟩))
      go_ret3
      exact ⟨congrArg Ending.returned hA2.out.symm, K.out.old⟩
    | true =>
      by_cases hz : n = 0
      · subst hz
        have hA2 : A = .tuple #[.int .i64 0, .float .f64 0, .int .i64 80] := by rw [hA.out]; simp
        replace hA2 := Lib.hid hA2
        clear hA
        replace K := Lib.hid K
        clear CP
        go_wp2_with (go_at_call 43; ((with_reducible refine (CT _).mono ?_); rintro e w' ⟨rfl, rfl⟩))
        go_ret3
        exact ⟨congrArg Ending.returned hA2.out.symm, K.out.old⟩
      · have CQ := CP.out (by simp [hz])
        have tz : ((n : Int) == 0) = false := by simpa using hz
        have hA2 : A = .tuple #[.int .i64 (i : Int), .float .f64 x, .int .i64 0] := by rw [hA.out]; simp [hz]
        replace hA2 := Lib.hid hA2
        clear hA
        replace CQ := Lib.hid CQ
        replace K := Lib.hid K
        clear CP hz
        go_wp2_with (go_at_call 43; ((with_reducible refine (CT _).mono ?_); rintro e w' ⟨rfl, rfl⟩))
        refine (CQ.out v1).mono ?_
        rintro _ v2 ⟨rfl, hb⟩
        replace K := Lib.hid (K.out.on hb)
        clear hb CQ c0_0 c0_1 c0_2
        go_wp2_with fail
        go_ret3
        exact ⟨congrArg Ending.returned hA2.out.symm, K.out.old⟩
  · have tc : (c != 0) = true := by simpa using hc
    have hA2 : A = .tuple #[.int .i64 0, .float .f64 0, .int .i64 c] := by rw [hA.out]; simp [hc]
    replace hA2 := Lib.hid hA2
    clear hA
    replace K := Lib.hid K
    clear CP
    go_wp2_with fail
    go_ret3
    exact ⟨congrArg Ending.returned hA2.out.symm, K.out.old⟩
end Go.Proofs.Ytnmadknpkhaolaa
