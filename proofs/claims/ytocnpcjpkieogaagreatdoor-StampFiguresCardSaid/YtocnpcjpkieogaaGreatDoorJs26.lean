/- Proved here: what the texts Ycw, Yda prove, one behind the other. -/
import Derived.Test.YtocnpcjpkieogaaGreatDoorJs24
import Derived.Test.YtocnpcjpkieogaaGreatDoorJs25
import Derived.Test.YtocnpcjpkieogaaGreatDoorJs23

namespace Go.Proofs.YtocnpcjpkieogaaGreatDoor
open Go.ChangeShapes Go.WideShapes Go.ChangeAt Go.RowKit Ieee Ieee.Own

theorem rd_fig {W P : List Int} {pt : Bool} (hW : ∀ x ∈ W, 48 ≤ x ∧ x ≤ 57) (hP : ∀ x ∈ P, 48 ≤ x ∧ x ≤ 57) (p0 : pt = false → P = []) :
    (rdS (W ++ (if pt = true then 46 :: P else []))).1 = figD W P ∧ rdE (rdS (W ++ (if pt = true then 46 :: P else []))) = if figD W P = 0 then 0 else -(P.length : Int) := by
  unfold figD
  cases pt with
  | true =>
    rw [if_pos rfl]
    obtain ⟨d, h1, _⟩ := rd_WP hW hP
    rw [h1]
    refine ⟨rfl, ?_⟩
    unfold rdE
    simp only
    by_cases z : numI (W ++ P) 0 = 0
    · rw [if_pos z, if_pos z]
    · rw [if_neg z, if_neg z, if_pos trivial]
  | false =>
    have := p0 rfl
    subst this
    rw [if_neg (by decide), List.append_nil]
    obtain ⟨d, h1, _⟩ := rd_W hW
    rw [h1]
    refine ⟨rfl, ?_⟩
    unfold rdE
    simp only
    by_cases z : numI W 0 = 0
    · rw [if_pos z, if_pos z]
    · rw [if_neg z, if_neg z, if_neg (by decide)]; rfl
theorem fig_chars {W P : List Int} {pt : Bool} (hW : ∀ x ∈ W, 48 ≤ x ∧ x ≤ 57) (hP : ∀ x ∈ P, 48 ≤ x ∧ x ≤ 57) : ∀ x ∈ W ++ (if pt = true then 46 :: P else []), 46 ≤ x ∧ x ≤ 57 := by
  intro x hx
  rcases List.mem_append.1 hx with r | r
  · have := hW x r; omega
  · cases pt with
    | true =>
      rw [if_pos rfl] at r
      rcases List.mem_cons.1 r with r | r
      · omega
      · have := hP x r; omega
    | false => cases r
theorem fig_first {W : List Int} (hW : ∀ x ∈ W, 48 ≤ x ∧ x ≤ 57) (w1 : 1 ≤ W.length) (T : List Int) : 48 ≤ (W ++ T).getD 0 0 ∧ (W ++ T).getD 0 0 ≤ 57 := by
  cases W with
  | nil => simp at w1
  | cons c l => exact hW c (by simp)
set_option maxRecDepth 100000 in
theorem rdf_any (s : ByteArray) {neg : Bool} {W : List Int} {pt : Bool} {P : List Int} (F : FigP (byI s) neg W pt P) (h2 : s.size ≤ 30) (u : World) :
    Calls Tryz.prog 129 #[.string s] u fun e u' => e = .returned (.tuple #[.int .u64 (figD W P : Int), .int .i64 (if figD W P = 0 then 0 else -(P.length : Int)), .bool neg, .bool false, .bool false, .int .i64 (s.size : Int), .bool true]) ∧ u = u' := by
  obtain ⟨r1, r2⟩ := rd_fig F.dW F.dP F.p0
  have ok := rd_ok (pt := pt) F.dW F.dP F.w2 F.p2
  have ch := fig_chars (pt := pt) F.dW F.dP
  have f1 := fig_first F.dW F.w1 (if pt = true then 46 :: P else [])
  have e := F.eqL
  have w1 := F.w1
  have ll := byI_len s
  have lR : 1 ≤ (W ++ (if pt = true then 46 :: P else [])).length := by rw [List.length_append]; omega
  generalize W ++ (if pt = true then 46 :: P else []) = R at *
  cases neg with
  | true =>
    have e' : byI s = 45 :: R := e
    rw [e', List.length_cons] at ll
    have := rdf_neg s R e' ok (by omega) h2 f1.1 ch u
    rw [r1, r2] at this
    exact this
  | false =>
    have e' : byI s = R := e
    rw [e'] at ll
    have := rdf_pos s (by rw [e']; exact ok) (by omega) h2 (by rw [e']; exact f1.1) (by rw [e']; exact ch) u
    rw [e', r1, r2] at this
    exact this
set_option maxRecDepth 100000 in
theorem spec_any (s : ByteArray) {neg : Bool} {W : List Int} {pt : Bool} {P : List Int} (F : FigP (byI s) neg W pt P) (h2 : s.size ≤ 30) (u : World) :
    Calls Tryz.prog 128 #[.string s] u fun e w' => e = .returned (.tuple #[.float .f64 0, .int .i64 0, .bool false]) ∧ u = w' := by
  have f1 := fig_first F.dW F.w1 (if pt = true then 46 :: P else [])
  have e := F.eqL
  have w1 := F.w1
  have ll := byI_len s
  have lR : 1 ≤ (W ++ (if pt = true then 46 :: P else [])).length := by rw [List.length_append]; omega
  generalize W ++ (if pt = true then 46 :: P else []) = R at *
  cases neg with
  | true =>
    have e' : byI s = 45 :: R := e
    rw [e', List.length_cons] at ll
    refine special_run s true (by omega) (by omega) (fun _ => ⟨?_, by omega, ?_⟩) (fun h => by cases h) u
    · have := byI_at s 0 (by omega)
      rw [e', List.getD_cons_zero] at this
      omega
    · have := byI_at s 1 (by omega)
      rw [e', List.getD_cons_succ] at this
      omega
  | false =>
    have e' : byI s = R := e
    rw [e'] at ll
    refine special_run s false (by omega) (by omega) (fun h => by cases h) (fun _ => ?_) u
    have := byI_at s 0 (by omega)
    rw [e'] at this
    omega
/-- the number answered -/
def GotF (neg : Bool) (D p x : Nat) : Prop := (D = 0 ∧ x = 0) ∨ (D ≠ 0 ∧ ∃ k, NearK D p k x ∧ x < 18446744073709551616 ∧ x / 9223372036854775808 = if neg = true then 1 else 0)
theorem Lib10.on {w w' : World} (h : Lib10 w) (hb : Below w.heap.size w w') : Lib10 w' := by
  have c : ∀ g j, g < w.heap.size → w'.cell? ⟨g, j, none⟩ = w.cell? ⟨g, j, none⟩ := fun g j hg => hb.cell (p := ⟨g, j, none⟩) hg
  have sz := h.l9.size
  obtain ⟨a, o, n, c1, c2, c3⟩ := h.pow
  refine ⟨h.l9.on hb sz, (c _ _ (Nat.lt_of_lt_of_le (show 9 < 18 + 1 by decide) sz)).trans h.info, a, o, n, (c _ _ (Nat.lt_of_lt_of_le (show 16 < 18 + 1 by decide) sz)).trans c1, Nat.lt_of_lt_of_le c2 hb.size, fun i hi => (c a (o + i) c2).trans (c3 i hi)⟩
def ansF (neg : Bool) (D p : Nat) (n : Int) (e : Ending) : Prop := ∃ x, e = .returned (.tuple #[.float .f64 x, .int .i64 n, .nilIface]) ∧ GotF neg D p x
theorem fig_lim {s : ByteArray} {neg : Bool} {W : List Int} {pt : Bool} {P : List Int} (F : FigP (byI s) neg W pt P) : figD W P < 18446744073709551616 ∧ (4503599627370496 ≤ figD W P → 6 ≤ P.length) := by
  have a := numI_lt (W ++ P) (fun x hx => by
    rcases List.mem_append.1 hx with r | r
    · exact F.dW x r
    · exact F.dP x r) 0
  have w2 := F.w2
  have p2 := F.p2
  rw [List.length_append] at a
  unfold figD
  constructor
  · have b : 10 ^ (W.length + P.length) ≤ 10 ^ 19 := Nat.pow_le_pow_right (by decide) (by omega)
    rw [show (10 : Nat) ^ 19 = 10000000000000000000 by decide] at b
    omega
  · intro h
    rcases Nat.lt_or_ge P.length 6 with q | q
    · exfalso
      have b : 10 ^ (W.length + P.length) ≤ 10 ^ 15 := Nat.pow_le_pow_right (by decide) (by omega)
      rw [show (10 : Nat) ^ 15 = 1000000000000000 by decide] at b
      omega
    · exact q
set_option maxHeartbeats 4000000 in
set_option maxRecDepth 100000 in
theorem atof_walk (s : ByteArray) (neg : Bool) (D p : Nat) (hp : p ≤ 9) (hD : D < 18446744073709551616) (hz : D = 0 → neg = false) (h6 : 4503599627370496 ≤ D → 6 ≤ p) (w : World) (L : Lib10 w)
    (S : ∀ u, Calls Tryz.prog 128 #[.string s] u fun e w' => e = .returned (.tuple #[.float .f64 0, .int .i64 0, .bool false]) ∧ u = w')
    (R : ∀ u, Calls Tryz.prog 129 #[.string s] u fun e u' => e = .returned (.tuple #[.int .u64 (D : Int), .int .i64 (if D = 0 then 0 else -(p : Int)), .bool neg, .bool false, .bool false, .int .i64 (s.size : Int), .bool true]) ∧ u = u') :
    Calls Tryz.prog 90 #[.string s] w fun e w' => ansF neg D p (s.size : Int) e ∧ Below w.heap.size w w' := by
  replace S := Lib.hid S
  replace R := Lib.hid R
  have hopt := L.l9.opt
  have BU := Lib.hid (fun w => b2u_run neg w)
  have Z : ∀ w, (callFunc 138 #[.int .u64 0]).run Tryz.prog w = .ok (.value (.float .f64 0)) w := fun w => ifb_run 0 w
  have O0 : bits BinOp.or IntKind.u64 0 0 = 0 := by rfl
  cases neg with
  | false =>
    by_cases d0 : D = 0
    · subst d0
      rw [if_pos rfl] at R
      clear L h6 hz
      go_enter Tryz.func90, Tryz.ntmps90
      go_wp2_with fail
      refine (S.out _).mono ?_
      rintro _ v1 ⟨rfl, rfl⟩
      clear S
      go_wp2_with fail
      refine (R.out _).mono ?_
      rintro _ v1 ⟨rfl, rfl⟩
      clear R
      go_wp2_with fail
      refine (BU.out _).mono ?_
      rintro _ v1 ⟨rfl, rfl⟩
      clear BU
      go_wp2_with fail
      go_ret3
      exact ⟨⟨_, rfl, Or.inl ⟨rfl, rfl⟩⟩, Below.refl _ _⟩
    · rw [if_neg d0] at R
      have e0 : ((D : Int) == 0) = false := beq_eq_false_iff_ne.2 (by omega)
      have gp : (p : Int) ≤ 9 := by omega
      by_cases big : D < 4503599627370496
      · have A := Lib.hid (a64_run D p false (by omega) big hp w L)
        clear L h6 hz hD big
        go_enter Tryz.func90, Tryz.ntmps90
        go_wp2_with fail
        refine (S.out _).mono ?_
        rintro _ v1 ⟨rfl, rfl⟩
        clear S
        go_wp2_with fail
        refine (R.out _).mono ?_
        rintro _ v1 ⟨rfl, rfl⟩
        clear R
        go_wp2_with fail
        refine (BU.out _).mono ?_
        rintro _ v1 ⟨rfl, rfl⟩
        clear BU
        go_wp2_with fail
        refine A.out.mono ?_
        rintro _ v1 ⟨⟨x, k, rfl, n1, n2, n3⟩, rfl⟩
        clear A
        go_wp2_with fail
        go_ret3
        exact ⟨⟨x, rfl, Or.inr ⟨d0, k, n1, n2, n3⟩⟩, Below.refl _ _⟩
      · have A := Lib.hid (a64_big D (-(p : Int)) false (by omega) hD w L)
        have p6 := h6 (by omega)
        have PF := Lib.hid (pf64_run D p 0 p6 hp d0 hD (by decide) w L.l9)
        clear L h6 hz hD big
        go_enter Tryz.func90, Tryz.ntmps90
        go_wp2_with fail
        refine (S.out _).mono ?_
        rintro _ v1 ⟨rfl, rfl⟩
        clear S
        go_wp2_with fail
        refine (R.out _).mono ?_
        rintro _ v1 ⟨rfl, rfl⟩
        clear R
        go_wp2_with fail
        refine (BU.out _).mono ?_
        rintro _ v1 ⟨rfl, rfl⟩
        clear BU
        go_wp2_with fail
        refine A.out.mono ?_
        rintro _ v1 ⟨rfl, rfl⟩
        clear A
        go_wp2_with fail
        refine PF.out.mono ?_
        rintro _ v2 ⟨⟨x, k, rfl, n1, n2, n3⟩, B⟩
        replace B := Lib.hid B
        clear PF
        go_wp2_with fail
        go_ret3
        exact ⟨⟨x, rfl, Or.inr ⟨d0, k, n1, n2, n3⟩⟩, B.out⟩
  | true =>
    by_cases d0 : D = 0
    · have := hz d0; cases this
    · rw [if_neg d0] at R
      have e0 : ((D : Int) == 0) = false := beq_eq_false_iff_ne.2 (by omega)
      have gp : (p : Int) ≤ 9 := by omega
      by_cases big : D < 4503599627370496
      · have A := Lib.hid (a64_run D p true (by omega) big hp w L)
        clear L h6 hz hD big
        go_enter Tryz.func90, Tryz.ntmps90
        go_wp2_with fail
        refine (S.out _).mono ?_
        rintro _ v1 ⟨rfl, rfl⟩
        clear S
        go_wp2_with fail
        refine (R.out _).mono ?_
        rintro _ v1 ⟨rfl, rfl⟩
        clear R
        go_wp2_with fail
        refine (BU.out _).mono ?_
        rintro _ v1 ⟨rfl, rfl⟩
        clear BU
        go_wp2_with fail
        refine A.out.mono ?_
        rintro _ v1 ⟨⟨x, k, rfl, n1, n2, n3⟩, rfl⟩
        clear A
        go_wp2_with fail
        go_ret3
        exact ⟨⟨x, rfl, Or.inr ⟨d0, k, n1, n2, n3⟩⟩, Below.refl _ _⟩
      · have A := Lib.hid (a64_big D (-(p : Int)) true (by omega) hD w L)
        have p6 := h6 (by omega)
        have PF := Lib.hid (pf64_run D p 1 p6 hp d0 hD (by decide) w L.l9)
        clear L h6 hz hD big
        go_enter Tryz.func90, Tryz.ntmps90
        go_wp2_with fail
        refine (S.out _).mono ?_
        rintro _ v1 ⟨rfl, rfl⟩
        clear S
        go_wp2_with fail
        refine (R.out _).mono ?_
        rintro _ v1 ⟨rfl, rfl⟩
        clear R
        go_wp2_with fail
        refine (BU.out _).mono ?_
        rintro _ v1 ⟨rfl, rfl⟩
        clear BU
        go_wp2_with fail
        refine A.out.mono ?_
        rintro _ v1 ⟨rfl, rfl⟩
        clear A
        go_wp2_with fail
        refine PF.out.mono ?_
        rintro _ v2 ⟨⟨x, k, rfl, n1, n2, n3⟩, B⟩
        replace B := Lib.hid B
        clear PF
        go_wp2_with fail
        go_ret3
        exact ⟨⟨x, rfl, Or.inr ⟨d0, k, n1, n2, n3⟩⟩, B.out⟩
end Go.Proofs.YtocnpcjpkieogaaGreatDoor

namespace Go.Proofs.YtocnpcjpkieogaaGreatDoor
open Go.ChangeShapes Go.WideShapes Go.ChangeAt Go.RowKit Ieee Ieee.Own

def ansP (neg : Bool) (D p : Nat) (e : Ending) : Prop := ∃ x, e = .returned (.tuple #[.float .f64 x, .nilIface]) ∧ GotF neg D p x
/-- a figure's sign, whole part, part behind the point -/
def ngF (s : ByteArray) : Bool := ngP (byI s)
def hdF (s : ByteArray) : List Int := hdP (rsP (byI s))
def tlF (s : ByteArray) : List Int := tlP (rsP (byI s))
set_option maxRecDepth 100000 in
theorem pfp_run (s : ByteArray) (h : figT (byI s) = true) (w : World) (L : Lib10 w) :
    Calls Tryz.prog 59 #[.string s, .int .i64 64] w fun e w' => ansF (ngF s) (figD (hdF s) (tlF s)) (tlF s).length (s.size : Int) e ∧ Below w.heap.size w w' := by
  have sz := fig_size h
  have F := fig_parts h
  obtain ⟨l1, l2⟩ := fig_lim F
  have hz : figD (hdF s) (tlF s) = 0 → ngF s = false := fun z => by
    rcases Bool.eq_false_or_eq_true (ngF s) with q | q
    · exact absurd z (F.nz q)
    · exact q
  have C := Lib.hid (atof_walk s (ngF s) (figD (hdF s) (tlF s)) (tlF s).length F.p2 l1 hz l2 w L (fun u => spec_any s F (by omega) u) (fun u => rdf_any s F (by omega) u))
  clear F l1 l2 hz h L sz
  generalize figD (hdF s) (tlF s) = D at *
  generalize (tlF s).length = p at *
  generalize ngF s = neg at *
  go_enter Tryz.func59, Tryz.ntmps59
  go_wp2_with fail
  refine C.out.mono ?_
  rintro _ v1 ⟨⟨x, rfl, g⟩, B⟩
  replace B := Lib.hid B
  clear C
  go_wp2_with fail
  go_ret3
  exact ⟨⟨x, rfl, g⟩, B.out⟩
set_option maxRecDepth 100000 in
theorem ipf_run (s : ByteArray) (h : figT (byI s) = true) (w : World) (L : Lib10 w) :
    Calls Tryz.prog 36 #[.string s, .int .i64 64] w fun e w' => ansP (ngF s) (figD (hdF s) (tlF s)) (tlF s).length e ∧ Below w.heap.size w w' := by
  have C := Lib.hid (pfp_run s h w L)
  clear h L
  generalize figD (hdF s) (tlF s) = D at *
  generalize (tlF s).length = p at *
  generalize ngF s = neg at *
  have t : ((s.size : Int) != (s.size : Int)) = false := by simp
  go_enter Tryz.func36, Tryz.ntmps36
  go_wp2_with fail
  refine C.out.mono ?_
  rintro _ v1 ⟨⟨x, rfl, g⟩, B⟩
  replace B := Lib.hid B
  clear C
  go_wp2_with fail
  go_ret2
  exact ⟨⟨x, rfl, g⟩, B.out⟩
set_option maxRecDepth 100000 in
theorem pf_run (s : ByteArray) (h : figT (byI s) = true) (w : World) (L : Lib10 w) :
    Calls Tryz.prog 21 #[.string s, .int .i64 64] w fun e w' => ansP (ngF s) (figD (hdF s) (tlF s)) (tlF s).length e ∧ Below w.heap.size w w' := by
  have C := Lib.hid (ipf_run s h w L)
  clear h L
  generalize figD (hdF s) (tlF s) = D at *
  generalize (tlF s).length = p at *
  generalize ngF s = neg at *
  go_enter Tryz.func21, Tryz.ntmps21
  go_wp2_with fail
  refine C.out.mono ?_
  rintro _ v1 ⟨⟨x, rfl, g⟩, B⟩
  replace B := Lib.hid B
  clear C
  go_wp2_with fail
  go_ret2
  exact ⟨⟨x, rfl, g⟩, B.out⟩
set_option maxRecDepth 100000 in
theorem val_text (s : ByteArray) (hs : s.size ≤ 9223372036854775807) (h : figT (byI s) = false) (w : World) :
    Calls Tryz.prog 7 #[.string s] w fun e w' => e = .returned (.tuple #[.float .f64 0, .int .i64 90]) ∧ Below w.heap.size w w' := by
  have C := Lib.hid (isfig_run s hs w)
  rw [h] at C
  go_enter Tryz.func7, Tryz.ntmps7
  go_wp2_with fail
  refine C.out.mono ?_
  rintro _ v1 ⟨rfl, B⟩
  replace B := Lib.hid B
  clear C
  go_wp2_with fail
  go_ret2
  exact ⟨rfl, B.out⟩
set_option maxRecDepth 100000 in
theorem val_fit (s : ByteArray) (h : figT (byI s) = true) (ha : abvT (hdF s) (tlF s) = true) (w : World) (L : Lib10 w) :
    Calls Tryz.prog 7 #[.string s] w fun e w' => e = .returned (.tuple #[.float .f64 0, .int .i64 3]) ∧ Below w.heap.size w w' := by
  have C := Lib.hid (isfig_run s (by have := fig_size h; omega) w)
  rw [h] at C
  have P := Lib.hid (fun u (Lu : Lib10 u) => pf_run s h u Lu)
  have A := Lib.hid (fun u => isabv_run s h u)
  change Hid (∀ u, Calls _ _ _ _ fun e w' => e = .returned (.bool (abvT (hdF s) (tlF s))) ∧ _) at A
  rw [ha] at A
  clear h ha
  generalize figD (hdF s) (tlF s) = D at *
  generalize (tlF s).length = p at *
  generalize ngF s = neg at *
  go_enter Tryz.func7, Tryz.ntmps7
  go_wp2_with fail
  refine C.out.mono ?_
  rintro _ v1 ⟨rfl, B⟩
  have L1 := L.on B
  replace B := Lib.hid B
  clear C L
  go_wp2_with fail
  refine (P.out _ L1).mono ?_
  rintro _ v2 ⟨⟨x, rfl, g⟩, B2⟩
  replace B := Lib.hid (B.out.trans (B2.mono B.out.size))
  clear P B2 L1 g
  go_wp2_with fail
  refine (A.out _).mono ?_
  rintro _ v3 ⟨rfl, B2⟩
  replace B := Lib.hid (B.out.trans (B2.mono B.out.size))
  clear A B2
  go_wp2_with fail
  go_ret2
  exact ⟨rfl, B.out⟩
def ansV (neg : Bool) (D p : Nat) (e : Ending) : Prop := ∃ x, e = .returned (.tuple #[.float .f64 x, .int .i64 0]) ∧ GotF neg D p x
set_option maxRecDepth 100000 in
theorem val_ok (s : ByteArray) (h : figT (byI s) = true) (ha : abvT (hdF s) (tlF s) = false) (w : World) (L : Lib10 w) :
    Calls Tryz.prog 7 #[.string s] w fun e w' => ansV (ngF s) (figD (hdF s) (tlF s)) (tlF s).length e ∧ Below w.heap.size w w' := by
  have C := Lib.hid (isfig_run s (by have := fig_size h; omega) w)
  rw [h] at C
  have P := Lib.hid (fun u (Lu : Lib10 u) => pf_run s h u Lu)
  have A := Lib.hid (fun u => isabv_run s h u)
  change Hid (∀ u, Calls _ _ _ _ fun e w' => e = .returned (.bool (abvT (hdF s) (tlF s))) ∧ _) at A
  rw [ha] at A
  clear h ha
  generalize figD (hdF s) (tlF s) = D at *
  generalize (tlF s).length = p at *
  generalize ngF s = neg at *
  go_enter Tryz.func7, Tryz.ntmps7
  go_wp2_with fail
  refine C.out.mono ?_
  rintro _ v1 ⟨rfl, B⟩
  have L1 := L.on B
  replace B := Lib.hid B
  clear C L
  go_wp2_with fail
  refine (P.out _ L1).mono ?_
  rintro _ v2 ⟨⟨x, rfl, g⟩, B2⟩
  replace B := Lib.hid (B.out.trans (B2.mono B.out.size))
  clear P B2 L1
  replace g := Lib.hid g
  go_wp2_with fail
  refine (A.out _).mono ?_
  rintro _ v3 ⟨rfl, B2⟩
  replace B := Lib.hid (B.out.trans (B2.mono B.out.size))
  clear A B2
  go_wp2_with fail
  go_ret2
  exact ⟨⟨x, rfl, g.out⟩, B.out⟩
end Go.Proofs.YtocnpcjpkieogaaGreatDoor
