/-
  No cell of these rows narrows 'for every input' (looked for: loops, veiled, ifaces, maps, wideKeys, modest, calm, conditions, laid).
  DERIVED. THE GIVEN ROWS OF THIS SEAT. 4 by the template 'for every input the law returns true; each argument reads behind the call as it read before'; 0 by the template 'total and deterministic' (their statements: YtacinenddnfcbaaGreatTotals.lean).
  GIVEN WITH THE SEED: the statements are not yours to turn. If you find one false, say at which input.
  Laid BY PROGRAM, IN A SANDBOX (cutbox-rows.mjs): the forced cells as the released guide's own fill.sh prints them over the translation 50078aa777ad35bb… (all of the seat's roots in one cut). By AI agents, Wed Nov 11 2026. No macro, syntax, notation, axiom, sorry.
-/
import Derived.Test.YtacinenddnfcbaaGreatChecked
import GoSem.Claim
import GoSem.ClaimJoined
import GoSem.ClaimMapViews
import Derived.JoinedTies
import Derived.KernelRfl
namespace Go.Proofs.YtacinenddnfcbaaGreat
/- THE CELL 'sum', in the pinned program and in every row, IS THE sha256 OF THE DUMP (.gsa) THAT YtacinenddnfcbaaGreatProg.lean LOADS. Nothing in Lean hashes anything: it is a label: what it is worth is what the hold of that sum in a sandbox is worth. -/
noncomputable def Tryz.pinned : Pinned := { name := "ytacinenddnfcbaagreat", sum := "50078aa777ad35bb1e6c12118751cc826a4349f146f7d1f5abad55c3b33275cc", checked := Tryz.checked }
namespace Rows
def none {H : Type} : Left H := { results := [], args := [] }

/-- 'orrerylaw15.SkyMeets': WHATEVER THE INPUT: true; the input reads as it did. -/
def skyMeetsSpec : ChangeSpec := { name := "skyMeets", fn := fun _ => fun
  | [d1, d2, d3, d4] => { results := [.lit (.bool true)], args := [d1, d2, d3, d4] }
  | _ => none }
def skyMeetsRow : OpenClaim := { program := "ytacinenddnfcbaagreat", sum := "50078aa777ad35bb1e6c12118751cc826a4349f146f7d1f5abad55c3b33275cc", func := "orrery/orrerylaw15.SkyMeets", spec := "skyMeets", inPlace := ["math.Float64bits", "math.Float64frombits", "math.RoundToEven", "math.sqrt", "math.archFloor", "math.archTrunc", "math.archCeil"], unfollowed := true, recurses := true, apart := false }
def SkyMeetsSaid : Prop := skyMeetsRow.holds Tryz.pinned (OpenSpec.ofChange skyMeetsSpec)

/-- ITS FALSE NEIGHBOUR: 'it returns false'. Refute it at one input. -/
def skyMeetsWrong : ChangeSpec := { name := "skyMeets", fn := fun _ => fun
  | [d1, d2, d3, d4] => { results := [.lit (.bool false)], args := [d1, d2, d3, d4] }
  | _ => none }
def SkyMeetsWrongFalsely : Prop := skyMeetsRow.holds Tryz.pinned (OpenSpec.ofChange skyMeetsWrong)

/-- 'orrerylaw15.SkyAbout': WHATEVER THE INPUT: true; the input reads as it did. -/
def skyAboutSpec : ChangeSpec := { name := "skyAbout", fn := fun _ => fun
  | [d1, d2, d3] => { results := [.lit (.bool true)], args := [d1, d2, d3] }
  | _ => none }
def skyAboutRow : OpenClaim := { program := "ytacinenddnfcbaagreat", sum := "50078aa777ad35bb1e6c12118751cc826a4349f146f7d1f5abad55c3b33275cc", func := "orrery/orrerylaw15.SkyAbout", spec := "skyAbout", inPlace := ["math.Float64bits", "math.Float64frombits", "math.RoundToEven", "math.sqrt", "math.archFloor", "math.archTrunc", "math.Float32bits"], unfollowed := true, recurses := true, apart := false }
def SkyAboutSaid : Prop := skyAboutRow.holds Tryz.pinned (OpenSpec.ofChange skyAboutSpec)

/-- ITS FALSE NEIGHBOUR: 'it returns false'. Refute it at one input. -/
def skyAboutWrong : ChangeSpec := { name := "skyAbout", fn := fun _ => fun
  | [d1, d2, d3] => { results := [.lit (.bool false)], args := [d1, d2, d3] }
  | _ => none }
def SkyAboutWrongFalsely : Prop := skyAboutRow.holds Tryz.pinned (OpenSpec.ofChange skyAboutWrong)

/-- 'orrerylaw15.SkyOthers': WHATEVER THE INPUT: true; the input reads as it did. -/
def skyOthersSpec : ChangeSpec := { name := "skyOthers", fn := fun _ => fun
  | [d1, d2, d3, d4, d5] => { results := [.lit (.bool true)], args := [d1, d2, d3, d4, d5] }
  | _ => none }
def skyOthersRow : OpenClaim := { program := "ytacinenddnfcbaagreat", sum := "50078aa777ad35bb1e6c12118751cc826a4349f146f7d1f5abad55c3b33275cc", func := "orrery/orrerylaw15.SkyOthers", spec := "skyOthers", inPlace := ["math.Float64bits", "math.Float64frombits", "math.RoundToEven", "math.sqrt", "math.archFloor", "math.archTrunc", "math.Float32bits"], unfollowed := true, recurses := true, apart := false }
def SkyOthersSaid : Prop := skyOthersRow.holds Tryz.pinned (OpenSpec.ofChange skyOthersSpec)

/-- ITS FALSE NEIGHBOUR: 'it returns false'. Refute it at one input. -/
def skyOthersWrong : ChangeSpec := { name := "skyOthers", fn := fun _ => fun
  | [d1, d2, d3, d4, d5] => { results := [.lit (.bool false)], args := [d1, d2, d3, d4, d5] }
  | _ => none }
def SkyOthersWrongFalsely : Prop := skyOthersRow.holds Tryz.pinned (OpenSpec.ofChange skyOthersWrong)

/-- 'orrerylaw15.SkyStill': WHATEVER THE INPUT: true; the input reads as it did. -/
def skyStillSpec : ChangeSpec := { name := "skyStill", fn := fun _ => fun
  | [d1, d2, d3, d4] => { results := [.lit (.bool true)], args := [d1, d2, d3, d4] }
  | _ => none }
def skyStillRow : OpenClaim := { program := "ytacinenddnfcbaagreat", sum := "50078aa777ad35bb1e6c12118751cc826a4349f146f7d1f5abad55c3b33275cc", func := "orrery/orrerylaw15.SkyStill", spec := "skyStill", inPlace := ["math.Float64bits", "math.Float64frombits", "math.RoundToEven", "math.sqrt", "math.archFloor", "math.archTrunc"], unfollowed := true, recurses := true, apart := false }
def SkyStillSaid : Prop := skyStillRow.holds Tryz.pinned (OpenSpec.ofChange skyStillSpec)

/-- ITS FALSE NEIGHBOUR: 'it returns false'. Refute it at one input. -/
def skyStillWrong : ChangeSpec := { name := "skyStill", fn := fun _ => fun
  | [d1, d2, d3, d4] => { results := [.lit (.bool false)], args := [d1, d2, d3, d4] }
  | _ => none }
def SkyStillWrongFalsely : Prop := skyStillRow.holds Tryz.pinned (OpenSpec.ofChange skyStillWrong)

/- THE SECOND FORM. 'bulk': how many values and letters a reading holds, each counted each time it is reached (what is shared counts as often as it is met; a slice's spare places count too). A statement '..UptoSaid' is the law's where the arguments, and the package variables that the reading takes, are together of bulk at most 1048576: NARROWER than '..Said'. Prove '..Said' where nothing that the law and all that it calls make is longer than what came in: it says more and counts as full. Else prove '..UptoSaid'. A law counts once. -/
mutual
def uptoBulk {H : Type} : DataW H → Nat
  | .lit (.string bytes) => bytes.length + 1
  | .lit _ => 1
  | .nil => 1
  | .ptr d => uptoBulk d + 1
  | .slice elems spare => uptoBulkAll elems + uptoBulkAll spare + 1
  | .agg parts => uptoBulkAll parts + 1
  | .iface _ d => uptoBulk d + 1
  | .map entries => uptoBulkEntries entries + 1
  | .held _ => 1
def uptoBulkAll {H : Type} : List (DataW H) → Nat
  | [] => 0
  | d :: r => uptoBulk d + uptoBulkAll r
def uptoBulkEntries {H : Type} : List (Lit × DataW H) → Nat
  | [] => 0
  | x :: r => uptoBulkEntry x + uptoBulkEntries r
def uptoBulkEntry {H : Type} : Lit × DataW H → Nat
  | (.string bytes, d) => bytes.length + uptoBulk d + 1
  | (_, d) => uptoBulk d + 1
 end
def uptoSmall : (H : Type) → List (DataW H) → Bool := fun _ ds => decide (uptoBulkAll ds ≤ 1048576)
def OpenSpec.upto (s : _root_.Go.ChangeSpec) : _root_.Go.OpenSpec := { _root_.Go.OpenSpec.ofChange s with cond := some uptoSmall }

/-- 'orrerylaw15.SkyMeets', WHERE WHAT IT READS IS OF BULK AT MOST 1048576: true; the input reads as it did. -/
def skyMeetsUptoRow : OpenClaim := { program := "ytacinenddnfcbaagreat", sum := "50078aa777ad35bb1e6c12118751cc826a4349f146f7d1f5abad55c3b33275cc", func := "orrery/orrerylaw15.SkyMeets", spec := "skyMeets", inPlace := ["math.Float64bits", "math.Float64frombits", "math.RoundToEven", "math.sqrt", "math.archFloor", "math.archTrunc", "math.archCeil"], unfollowed := true, recurses := true, apart := false, narrowed := true }
def SkyMeetsUptoSaid : Prop := skyMeetsUptoRow.holds Tryz.pinned (OpenSpec.upto skyMeetsSpec)

/-- 'orrerylaw15.SkyAbout', WHERE WHAT IT READS IS OF BULK AT MOST 1048576: true; the input reads as it did. -/
def skyAboutUptoRow : OpenClaim := { program := "ytacinenddnfcbaagreat", sum := "50078aa777ad35bb1e6c12118751cc826a4349f146f7d1f5abad55c3b33275cc", func := "orrery/orrerylaw15.SkyAbout", spec := "skyAbout", inPlace := ["math.Float64bits", "math.Float64frombits", "math.RoundToEven", "math.sqrt", "math.archFloor", "math.archTrunc", "math.Float32bits"], unfollowed := true, recurses := true, apart := false, narrowed := true }
def SkyAboutUptoSaid : Prop := skyAboutUptoRow.holds Tryz.pinned (OpenSpec.upto skyAboutSpec)

/-- 'orrerylaw15.SkyOthers', WHERE WHAT IT READS IS OF BULK AT MOST 1048576: true; the input reads as it did. -/
def skyOthersUptoRow : OpenClaim := { program := "ytacinenddnfcbaagreat", sum := "50078aa777ad35bb1e6c12118751cc826a4349f146f7d1f5abad55c3b33275cc", func := "orrery/orrerylaw15.SkyOthers", spec := "skyOthers", inPlace := ["math.Float64bits", "math.Float64frombits", "math.RoundToEven", "math.sqrt", "math.archFloor", "math.archTrunc", "math.Float32bits"], unfollowed := true, recurses := true, apart := false, narrowed := true }
def SkyOthersUptoSaid : Prop := skyOthersUptoRow.holds Tryz.pinned (OpenSpec.upto skyOthersSpec)

/-- 'orrerylaw15.SkyStill', WHERE WHAT IT READS IS OF BULK AT MOST 1048576: true; the input reads as it did. -/
def skyStillUptoRow : OpenClaim := { program := "ytacinenddnfcbaagreat", sum := "50078aa777ad35bb1e6c12118751cc826a4349f146f7d1f5abad55c3b33275cc", func := "orrery/orrerylaw15.SkyStill", spec := "skyStill", inPlace := ["math.Float64bits", "math.Float64frombits", "math.RoundToEven", "math.sqrt", "math.archFloor", "math.archTrunc"], unfollowed := true, recurses := true, apart := false, narrowed := true }
def SkyStillUptoSaid : Prop := skyStillUptoRow.holds Tryz.pinned (OpenSpec.upto skyStillSpec)

end Rows
end Go.Proofs.YtacinenddnfcbaaGreat
