/- Proved here: what the texts Ycp, Ycq prove, one behind the other. -/
import Derived.Test.YtocnpcjpkieogaaGreatDoorJs20
import Derived.Shelf.Strconv.ParseIntPublic10
import Derived.Test.YtocnpcjpkieogaaGreatDoorJs22

namespace Go.Proofs.YtocnpcjpkieogaaGreatDoor
open Go.Shelf Go.ChangeShapes Go.WideShapes Go.ChangeAt Go.RowKit

def renPI : Ren := ⟨fun n => if n = 129 then 74 else if n = 171 then 93 else if n = 174 then 38 else if n = 205 then 92 else if n = 243 then 141 else if n = 245 then 37 else if n = 246 then 157 else if n = 247 then 64 else if n = 279 then 60 else if n = 280 then 61 else if n = 281 then 62 else if n = 282 then 63 else if n = 283 then 143 else if n = 284 then 77 else if n = 285 then 111 else if n = 286 then 144 else if n = 287 then 94 else if n = 316 then 91 else if n = 317 then 78 else if n = 318 then 112 else if n = 319 then 158 else if n = 320 then 159 else if n = 321 then 102 else if n = 322 then 142 else if n = 337 then 160 else 161, fun n => if n = 0 then 0 else if n = 2 then 2 else if n = 3 then 3 else if n = 4 then 4 else if n = 5 then 5 else if n = 9 then 9 else if n = 20 then 20 else if n = 21 then 21 else if n = 37 then 52 else if n = 46 then 55 else if n = 51 then 93 else if n = 53 then 37 else if n = 75 then 42 else if n = 80 then 204 else if n = 85 then 64 else if n = 127 then 171 else if n = 143 then 172 else if n = 145 then 174 else if n = 167 then 87 else if n = 168 then 88 else if n = 171 then 104 else if n = 173 then 175 else if n = 175 then 124 else if n = 210 then 121 else if n = 212 then 144 else if n = 213 then 199 else if n = 232 then 98 else 203, fun n => if n = 15 then 4 else if n = 16 then 5 else if n = 17 then 6 else if n = 18 then 17 else 18⟩
set_option maxRecDepth 100000 in
set_option maxHeartbeats 4000000 in
theorem laysPI0 : Lays.n174 Tryz.prog renPI := by
  constructor
  case f129 => exact Tryz.func74.trans (congrArg some (by kernel_rfl))
  case f171 => exact Tryz.func93.trans (congrArg some (by kernel_rfl))
  case f174 => exact Tryz.func38.trans (congrArg some (by kernel_rfl))
  case f205 => exact Tryz.func92.trans (congrArg some (by kernel_rfl))
  case f243 => exact Tryz.func141.trans (congrArg some (by kernel_rfl))
  case f245 => exact Tryz.func37.trans (congrArg some (by kernel_rfl))
  case f246 => exact Tryz.func157.trans (congrArg some (by kernel_rfl))
  case f247 => exact Tryz.func64.trans (congrArg some (by kernel_rfl))
  case f279 => exact Tryz.func60.trans (congrArg some (by kernel_rfl))
  case f280 => exact Tryz.func61.trans (congrArg some (by kernel_rfl))
  case f281 => exact Tryz.func62.trans (congrArg some (by kernel_rfl))
  case f282 => exact Tryz.func63.trans (congrArg some (by kernel_rfl))
  case f283 => exact Tryz.func143.trans (congrArg some (by kernel_rfl))
  case f284 => exact Tryz.func77.trans (congrArg some (by kernel_rfl))
  case f285 => exact Tryz.func111.trans (congrArg some (by kernel_rfl))
  case f286 => exact Tryz.func144.trans (congrArg some (by kernel_rfl))
  case f287 => exact Tryz.func94.trans (congrArg some (by kernel_rfl))
  case f316 => exact Tryz.func91.trans (congrArg some (by kernel_rfl))
  case f317 => exact Tryz.func78.trans (congrArg some (by kernel_rfl))
  case f318 => exact Tryz.func112.trans (congrArg some (by kernel_rfl))
  case f319 => exact Tryz.func158.trans (congrArg some (by kernel_rfl))
  case f320 => exact Tryz.func159.trans (congrArg some (by kernel_rfl))
  case f321 => exact Tryz.func102.trans (congrArg some (by kernel_rfl))
  case f322 => exact Tryz.func142.trans (congrArg some (by kernel_rfl))
  case f337 => exact Tryz.func160.trans (congrArg some (by kernel_rfl))
  case f338 => exact Tryz.func161.trans (congrArg some (by kernel_rfl))
  all_goals first
    | kernel_rfl
    | (intro w; kernel_rfl)
set_option maxRecDepth 100000 in
set_option maxHeartbeats 4000000 in
theorem laysPI1 : LaysM.n174 Tryz.prog renPI := by
  constructor
  case ton174 => exact laysPI0
  all_goals first
    | kernel_rfl
    | (intro w; kernel_rfl)
set_option maxRecDepth 100000 in
set_option maxHeartbeats 4000000 in
theorem laysPI : LaysC.n174 Tryz.prog renPI := by
  constructor
  case toM => exact laysPI1
  all_goals first
    | kernel_rfl
    | (intro w; kernel_rfl)
theorem pum_digits : ∀ (l : List UInt8) (acc : Nat), (∀ x ∈ l.map (fun c => ((c.toNat : Nat) : Int)), 48 ≤ x ∧ x ≤ 57) → (acc + 1) * 10 ^ l.length ≤ 100000000000000000 → Lib.parseUintM 18446744073709551615 acc l = .ok (numI (l.map fun c => ((c.toNat : Nat) : Int)) acc)
  | [], acc, _, _ => rfl
  | c :: l, acc, h, hl => by
    have hc := h ((c.toNat : Nat) : Int) (by simp)
    rw [List.length_cons, Nat.pow_succ, Nat.mul_comm (10 ^ l.length), ← Nat.mul_assoc] at hl
    have p : 1 ≤ 10 ^ l.length := Nat.pow_pos (by decide)
    have hl2 : (acc + 1) * 10 ≤ 100000000000000000 := Nat.le_trans (Nat.le_mul_of_pos_right _ p) hl
    have ih := pum_digits l (acc * 10 + (c.toNat - 48)) (fun x hx => h x (List.mem_cons_of_mem _ hx)) (Nat.le_trans (Nat.mul_le_mul_right _ (by omega)) hl)
    unfold Lib.parseUintM
    rw [if_pos (by omega), if_neg (by omega), if_neg (by omega), ih, List.map_cons]
    have e : (((c.toNat : Nat) : Int) - 48).toNat = c.toNat - 48 := by omega
    simp only [numI, e]
theorem pib_digits (l : List UInt8) (h : ∀ x ∈ l.map (fun c => ((c.toNat : Nat) : Int)), 48 ≤ x ∧ x ≤ 57) (h1 : 1 ≤ l.length) (h2 : l.length ≤ 17) : Lib.parseIntB 64 l = .ok (numI (l.map fun c => ((c.toNat : Nat) : Int)) 0 : Nat) := by
  have lim : (0 + 1) * 10 ^ l.length ≤ 100000000000000000 := by
    have b : 10 ^ l.length ≤ 10 ^ 17 := Nat.pow_le_pow_right (by decide) h2
    rw [show (10 : Nat) ^ 17 = 100000000000000000 by decide] at b
    omega
  have u := pum_digits l 0 h lim
  have lt := numI_lt _ h 0
  rw [List.length_map] at lt
  cases l with
  | nil => simp at h1
  | cons c r =>
    have hc := h ((c.toNat : Nat) : Int) (by simp)
    have n43 : ¬ (c.toNat = 43 ∨ c.toNat = 45) := by omega
    have n45 : ¬ c.toNat = 45 := by omega
    generalize hq : numI ((c :: r).map fun c => ((c.toNat : Nat) : Int)) 0 = q at *
    have pu : Lib.parseUintB 64 (c :: r) = .ok q := by
      unfold Lib.parseUintB
      rw [if_neg (by simp)]
      exact u
    simp only [Lib.parseIntB]
    rw [if_neg n43, pu]
    simp only [n45]
    rw [if_neg (by simp; omega), if_neg (by simp)]
    simp
set_option maxRecDepth 100000 in
theorem pint_run (s : ByteArray) (hd : ∀ x ∈ byI s, 48 ≤ x ∧ x ≤ 57) (h1 : 1 ≤ s.size) (h2 : s.size ≤ 17) (w : World) :
    Calls Tryz.prog 38 #[.string s, .int .i64 10, .int .i64 64] w fun e w' => e = .returned (.tuple #[.int .i64 (numI (byI s) 0 : Nat), .nilIface]) ∧ Below w.heap.size w w' := by
  have l : s.data.toList.length = s.size := by simp
  refine (Any.strconv_ParseInt_10_at64_ok laysPI s (by omega) _ (pib_digits s.data.toList hd (by omega) (by omega)) w).mono ?_
  rintro e w' ⟨h, hw⟩
  refine ⟨h, ?_⟩
  rcases hw with rfl | ⟨t, rfl⟩
  · exact Below.refl _ _
  · exact Lib.bytesWorld_below _ _ _
end Go.Proofs.YtocnpcjpkieogaaGreatDoor

namespace Go.Proofs.YtocnpcjpkieogaaGreatDoor
open Go.ChangeShapes Go.WideShapes Go.ChangeAt Go.RowKit

theorem trim_rs (s : ByteArray) : byI ⟨(Lib.trimPrefix s.data.toList [45]).toArray⟩ = rsP (byI s) := by
  unfold Lib.trimPrefix rsP
  rw [hpf_is]
  by_cases h : ngP (byI s) = true
  · rw [if_pos h, if_pos h]
    unfold byI
    rw [← List.map_drop]
    rfl
  · rw [if_neg h, if_neg h]
theorem fig_size {s : ByteArray} (h : figT (byI s) = true) : s.size ≤ 21 := by
  have p := fig_parts h
  have e := congrArg List.length p.eqL
  rw [byI_len, List.length_append, List.length_append] at e
  have s1 : (sgL (ngP (byI s))).length ≤ 1 := by unfold sgL; split <;> decide
  have := p.w2
  have := p.p2
  split at e
  · rw [List.length_cons] at e; omega
  · simp at e; omega
set_option maxRecDepth 100000 in
set_option maxHeartbeats 4000000 in
theorem isabv_run (s : ByteArray) (h : figT (byI s) = true) (w : World) : Calls Tryz.prog 22 #[.string s] w fun e w' => e = .returned (.bool (abvT (hdP (rsP (byI s))) (tlP (rsP (byI s))))) ∧ Below w.heap.size w w' := by
  have sz := fig_size h
  have F := fig_parts h
  have T := Lib.hid (fun v => tpf_run s v)
  have tr := trim_rs s
  have tl := byI_len ⟨(Lib.trimPrefix s.data.toList [45]).toArray⟩
  rw [tr] at tl
  generalize (⟨(Lib.trimPrefix s.data.toList [45]).toArray⟩ : ByteArray) = d at *
  have hd : d.size ≤ 1000 := by
    have e := congrArg List.length (sg_rest (byI s))
    rw [byI_len, List.length_append] at e
    omega
  have Cc := Lib.hid (fun v => cut_run d (by omega) v)
  rw [tr] at Cc
  have dW := F.dW
  have w1 := F.w1
  have w2 := F.w2
  have p2 := F.p2
  clear F h tr tl sz hd
  generalize hdP (rsP (byI s)) = W at *
  generalize tlP (rsP (byI s)) = P at *
  generalize ptP (rsP (byI s)) = q at *
  have wl : numI W 0 < 100000000000000000 := numI_range dW (by omega)
  obtain ⟨V, hV⟩ : ∃ V, V = abvT W P := ⟨_, rfl⟩
  rw [← hV]
  unfold abvT at hV
  go_enter Tryz.func22, Tryz.ntmps22
  go_wp2_with fail
  refine (T.out _).mono ?_
  rintro _ v1 ⟨rfl, rfl⟩
  clear T
  go_wp2_with fail
  refine (Cc.out _).mono ?_
  rintro _ v2 ⟨a, b, rfl, ha, hb, B⟩
  clear Cc
  have la := byI_len a
  rw [ha] at la
  have lb := byI_len b
  rw [hb] at lb
  have PI := Lib.hid (fun v => pint_run a (by rw [ha]; exact dW) (by omega) (by omega) v)
  rw [ha] at PI
  have Cn := Lib.hid (fun v => ngt_run b (by omega) v)
  rw [hb] at Cn
  replace B := Lib.hid B
  generalize numI W 0 = u at *
  generalize ngtL P = z at *
  have gu : (u : Int) ≤ 100000000000000000 := by omega
  clear dW w1 w2 p2 wl la lb ha hb
  go_wp2_with fail
  refine (PI.out _).mono ?_
  rintro _ v3 ⟨rfl, B3⟩
  replace B := Lib.hid (B.out.trans (B3.mono B.out.size))
  clear PI B3
  by_cases k1 : 1073741824 < u
  · have t1 : decide (1073741824 < (u : Int)) = true := decide_eq_true (by omega)
    have hv : Hid (V = true) := by show _ = _; rw [hV, decide_eq_true k1]; rfl
    clear hV Cn k1
    go_wp2_with fail
    go_ret
    exact ⟨ret_bo hv.out.symm, B.out⟩
  · have t1 : decide (1073741824 < (u : Int)) = false := decide_eq_false (by omega)
    rw [decide_eq_false k1, Bool.false_or] at hV
    by_cases k2 : u = 1073741824
    · subst k2
      have hv : Hid (V = !z) := by show _ = _; rw [hV]; rfl
      clear hV k1 t1 gu
      go_wp2_with fail
      refine (Cn.out _).mono ?_
      rintro _ v4 ⟨rfl, B4⟩
      replace B := Lib.hid (B.out.trans (B4.mono B.out.size))
      clear Cn B4
      go_wp2_with fail
      go_ret
      exact ⟨ret_bo hv.out.symm, B.out⟩
    · have t2 : ((u : Int) == 1073741824) = false := beq_eq_false_iff_ne.2 (by omega)
      have hv : Hid (V = false) := by show _ = _; rw [hV, decide_eq_false k2]; rfl
      clear hV Cn k1 k2
      go_wp2_with fail
      go_ret
      exact ⟨ret_bo hv.out.symm, B.out⟩
end Go.Proofs.YtocnpcjpkieogaaGreatDoor
