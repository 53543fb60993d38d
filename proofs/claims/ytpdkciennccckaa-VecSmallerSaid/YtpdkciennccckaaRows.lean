/-
  No cell of these rows narrows 'for every input' (looked for: loops, veiled, ifaces, maps, wideKeys, modest, calm, conditions, laid).
  DERIVED. THE GIVEN ROWS OF THIS SEAT. 7 by the template 'for every input the law returns true; each argument reads behind the call as it read before'; 0 by the template 'total and deterministic' (their statements: YtpdkciennccckaaTotals.lean).
  GIVEN WITH THE SEED: the statements are not yours to turn. If you find one false, say at which input.
  Laid BY PROGRAM, IN A SANDBOX (cutbox-rows.mjs): the forced cells as the released guide's own fill.sh prints them over the translation 4807e282bd7b4fbc… (all of the seat's roots in one cut). By AI agents, Wed Nov 11 2026. No macro, syntax, notation, axiom, sorry.
-/
import Derived.Test.YtpdkciennccckaaChecked
import GoSem.Claim
import GoSem.ClaimJoined
import GoSem.ClaimMapViews
import Derived.JoinedTies
import Derived.KernelRfl
namespace Go.Proofs.Ytpdkciennccckaa
/- THE CELL 'sum', in the pinned program and in every row, IS THE sha256 OF THE DUMP (.gsa) THAT YtpdkciennccckaaProg.lean LOADS. Nothing in Lean hashes anything: it is a label: what it is worth is what the hold of that sum in a sandbox is worth. -/
noncomputable def Try.pinned : Pinned := { name := "ytpdkciennccckaa", sum := "4807e282bd7b4fbcd6fdcd5e569cf27091bb89ef75850d9cedc9c4622e39c14d", checked := Try.checked }
namespace Rows
def none {H : Type} : Left H := { results := [], args := [] }

/-- 'orrerylaw07.VecTells': WHATEVER THE INPUT: true; the input reads as it did. -/
def vecTellsSpec : ChangeSpec := { name := "vecTells", fn := fun _ => fun
  | [d1, d2] => { results := [.lit (.bool true)], args := [d1, d2] }
  | _ => none }
def vecTellsRow : OpenClaim := { program := "ytpdkciennccckaa", sum := "4807e282bd7b4fbcd6fdcd5e569cf27091bb89ef75850d9cedc9c4622e39c14d", func := "orrery/orrerylaw07.VecTells", spec := "vecTells", inPlace := ["math.Float64bits", "math.Float64frombits", "math.sqrt"], apart := false }
def VecTellsSaid : Prop := vecTellsRow.holds Try.pinned (OpenSpec.ofChange vecTellsSpec)

/-- ITS FALSE NEIGHBOUR: 'it returns false'. Refute it at one input. -/
def vecTellsWrong : ChangeSpec := { name := "vecTells", fn := fun _ => fun
  | [d1, d2] => { results := [.lit (.bool false)], args := [d1, d2] }
  | _ => none }
def VecTellsWrongFalsely : Prop := vecTellsRow.holds Try.pinned (OpenSpec.ofChange vecTellsWrong)

/-- 'orrerylaw07.VecTurns': WHATEVER THE INPUT: true; the input reads as it did. -/
def vecTurnsSpec : ChangeSpec := { name := "vecTurns", fn := fun _ => fun
  | [d1, d2, d3, d4] => { results := [.lit (.bool true)], args := [d1, d2, d3, d4] }
  | _ => none }
def vecTurnsRow : OpenClaim := { program := "ytpdkciennccckaa", sum := "4807e282bd7b4fbcd6fdcd5e569cf27091bb89ef75850d9cedc9c4622e39c14d", func := "orrery/orrerylaw07.VecTurns", spec := "vecTurns", inPlace := ["math.Float64bits", "math.Float64frombits", "math.sqrt", "math.RoundToEven", "math.archFloor", "math.archTrunc"], unfollowed := true, recurses := true, apart := false }
def VecTurnsSaid : Prop := vecTurnsRow.holds Try.pinned (OpenSpec.ofChange vecTurnsSpec)

/-- ITS FALSE NEIGHBOUR: 'it returns false'. Refute it at one input. -/
def vecTurnsWrong : ChangeSpec := { name := "vecTurns", fn := fun _ => fun
  | [d1, d2, d3, d4] => { results := [.lit (.bool false)], args := [d1, d2, d3, d4] }
  | _ => none }
def VecTurnsWrongFalsely : Prop := vecTurnsRow.holds Try.pinned (OpenSpec.ofChange vecTurnsWrong)

/-- 'orrerylaw07.VecEither': WHATEVER THE INPUT: true; the input reads as it did. -/
def vecEitherSpec : ChangeSpec := { name := "vecEither", fn := fun _ => fun
  | [d1, d2] => { results := [.lit (.bool true)], args := [d1, d2] }
  | _ => none }
def vecEitherRow : OpenClaim := { program := "ytpdkciennccckaa", sum := "4807e282bd7b4fbcd6fdcd5e569cf27091bb89ef75850d9cedc9c4622e39c14d", func := "orrery/orrerylaw07.VecEither", spec := "vecEither", inPlace := ["math.Float64bits", "math.Float64frombits", "math.sqrt"], apart := false }
def VecEitherSaid : Prop := vecEitherRow.holds Try.pinned (OpenSpec.ofChange vecEitherSpec)

/-- ITS FALSE NEIGHBOUR: 'it returns false'. Refute it at one input. -/
def vecEitherWrong : ChangeSpec := { name := "vecEither", fn := fun _ => fun
  | [d1, d2] => { results := [.lit (.bool false)], args := [d1, d2] }
  | _ => none }
def VecEitherWrongFalsely : Prop := vecEitherRow.holds Try.pinned (OpenSpec.ofChange vecEitherWrong)

/-- 'orrerylaw07.VecSmaller': WHATEVER THE INPUT: true; the input reads as it did. -/
def vecSmallerSpec : ChangeSpec := { name := "vecSmaller", fn := fun _ => fun
  | [d1, d2, d3, d4] => { results := [.lit (.bool true)], args := [d1, d2, d3, d4] }
  | _ => none }
def vecSmallerRow : OpenClaim := { program := "ytpdkciennccckaa", sum := "4807e282bd7b4fbcd6fdcd5e569cf27091bb89ef75850d9cedc9c4622e39c14d", func := "orrery/orrerylaw07.VecSmaller", spec := "vecSmaller", inPlace := ["math.Float64bits", "math.Float64frombits", "math.sqrt"], unfollowed := true, recurses := true, apart := false }
def VecSmallerSaid : Prop := vecSmallerRow.holds Try.pinned (OpenSpec.ofChange vecSmallerSpec)

/-- ITS FALSE NEIGHBOUR: 'it returns false'. Refute it at one input. -/
def vecSmallerWrong : ChangeSpec := { name := "vecSmaller", fn := fun _ => fun
  | [d1, d2, d3, d4] => { results := [.lit (.bool false)], args := [d1, d2, d3, d4] }
  | _ => none }
def VecSmallerWrongFalsely : Prop := vecSmallerRow.holds Try.pinned (OpenSpec.ofChange vecSmallerWrong)

/-- 'orrerylaw07.VecBack': WHATEVER THE INPUT: true; the input reads as it did. -/
def vecBackSpec : ChangeSpec := { name := "vecBack", fn := fun _ => fun
  | [d1, d2, d3] => { results := [.lit (.bool true)], args := [d1, d2, d3] }
  | _ => none }
def vecBackRow : OpenClaim := { program := "ytpdkciennccckaa", sum := "4807e282bd7b4fbcd6fdcd5e569cf27091bb89ef75850d9cedc9c4622e39c14d", func := "orrery/orrerylaw07.VecBack", spec := "vecBack", inPlace := ["math.Float64bits", "math.Float64frombits", "math.sqrt", "math.RoundToEven"], unfollowed := true, recurses := true, apart := false }
def VecBackSaid : Prop := vecBackRow.holds Try.pinned (OpenSpec.ofChange vecBackSpec)

/-- ITS FALSE NEIGHBOUR: 'it returns false'. Refute it at one input. -/
def vecBackWrong : ChangeSpec := { name := "vecBack", fn := fun _ => fun
  | [d1, d2, d3] => { results := [.lit (.bool false)], args := [d1, d2, d3] }
  | _ => none }
def VecBackWrongFalsely : Prop := vecBackRow.holds Try.pinned (OpenSpec.ofChange vecBackWrong)

/-- 'orrerylaw07.VecHolds': WHATEVER THE INPUT: true; the input reads as it did. -/
def vecHoldsSpec : ChangeSpec := { name := "vecHolds", fn := fun _ => fun
  | [d1, d2, d3] => { results := [.lit (.bool true)], args := [d1, d2, d3] }
  | _ => none }
def vecHoldsRow : OpenClaim := { program := "ytpdkciennccckaa", sum := "4807e282bd7b4fbcd6fdcd5e569cf27091bb89ef75850d9cedc9c4622e39c14d", func := "orrery/orrerylaw07.VecHolds", spec := "vecHolds", inPlace := ["math.Float64bits", "math.Float64frombits", "math.sqrt", "math.RoundToEven", "math.archCeil", "math.archFloor", "math.archTrunc"], unfollowed := true, recurses := true, apart := false }
def VecHoldsSaid : Prop := vecHoldsRow.holds Try.pinned (OpenSpec.ofChange vecHoldsSpec)

/-- ITS FALSE NEIGHBOUR: 'it returns false'. Refute it at one input. -/
def vecHoldsWrong : ChangeSpec := { name := "vecHolds", fn := fun _ => fun
  | [d1, d2, d3] => { results := [.lit (.bool false)], args := [d1, d2, d3] }
  | _ => none }
def VecHoldsWrongFalsely : Prop := vecHoldsRow.holds Try.pinned (OpenSpec.ofChange vecHoldsWrong)

/-- 'orrerylaw07.VecUnits': WHATEVER THE INPUT: true; the input reads as it did. -/
def vecUnitsSpec : ChangeSpec := { name := "vecUnits", fn := fun _ => fun
  | [d] => { results := [.lit (.bool true)], args := [d] }
  | _ => none }
def vecUnitsRow : OpenClaim := { program := "ytpdkciennccckaa", sum := "4807e282bd7b4fbcd6fdcd5e569cf27091bb89ef75850d9cedc9c4622e39c14d", func := "orrery/orrerylaw07.VecUnits", spec := "vecUnits", inPlace := ["math.Float64bits", "math.Float64frombits", "math.sqrt"], apart := false }
def VecUnitsSaid : Prop := vecUnitsRow.holds Try.pinned (OpenSpec.ofChange vecUnitsSpec)

/-- ITS FALSE NEIGHBOUR: 'it returns false'. Refute it at one input. -/
def vecUnitsWrong : ChangeSpec := { name := "vecUnits", fn := fun _ => fun
  | [d] => { results := [.lit (.bool false)], args := [d] }
  | _ => none }
def VecUnitsWrongFalsely : Prop := vecUnitsRow.holds Try.pinned (OpenSpec.ofChange vecUnitsWrong)

/- THE SECOND FORM. 'bulk': how many values and letters a reading holds, each counted each time it is reached (what is shared counts as often as it is met; a slice's spare places count too). A statement '..UptoSaid' is the law's where the arguments, and the package variables that the reading takes, are together of bulk at most 1048576: NARROWER than '..Said'. Prove '..Said' where nothing that the law and all that it calls make is longer than what came in: it says more and counts as full. Else prove '..UptoSaid'. A law counts once. -/
mutual
def uptoBulk {H : Type} : DataW H → Nat
  | .lit (.string bytes) => bytes.length + 1
  | .lit _ => 1
  | .nil => 1
  | .ptr d => uptoBulk d + 1
  | .slice elems spare => uptoBulkAll elems + uptoBulkAll spare + 1
  | .agg parts => uptoBulkAll parts + 1
  | .iface _ d => uptoBulk d + 1
  | .map entries => uptoBulkEntries entries + 1
  | .held _ => 1
def uptoBulkAll {H : Type} : List (DataW H) → Nat
  | [] => 0
  | d :: r => uptoBulk d + uptoBulkAll r
def uptoBulkEntries {H : Type} : List (Lit × DataW H) → Nat
  | [] => 0
  | x :: r => uptoBulkEntry x + uptoBulkEntries r
def uptoBulkEntry {H : Type} : Lit × DataW H → Nat
  | (.string bytes, d) => bytes.length + uptoBulk d + 1
  | (_, d) => uptoBulk d + 1
 end
def uptoSmall : (H : Type) → List (DataW H) → Bool := fun _ ds => decide (uptoBulkAll ds ≤ 1048576)
def OpenSpec.upto (s : _root_.Go.ChangeSpec) : _root_.Go.OpenSpec := { _root_.Go.OpenSpec.ofChange s with cond := some uptoSmall }

/-- 'orrerylaw07.VecTells', WHERE WHAT IT READS IS OF BULK AT MOST 1048576: true; the input reads as it did. -/
def vecTellsUptoRow : OpenClaim := { program := "ytpdkciennccckaa", sum := "4807e282bd7b4fbcd6fdcd5e569cf27091bb89ef75850d9cedc9c4622e39c14d", func := "orrery/orrerylaw07.VecTells", spec := "vecTells", inPlace := ["math.Float64bits", "math.Float64frombits", "math.sqrt"], apart := false, narrowed := true }
def VecTellsUptoSaid : Prop := vecTellsUptoRow.holds Try.pinned (OpenSpec.upto vecTellsSpec)

/-- 'orrerylaw07.VecTurns', WHERE WHAT IT READS IS OF BULK AT MOST 1048576: true; the input reads as it did. -/
def vecTurnsUptoRow : OpenClaim := { program := "ytpdkciennccckaa", sum := "4807e282bd7b4fbcd6fdcd5e569cf27091bb89ef75850d9cedc9c4622e39c14d", func := "orrery/orrerylaw07.VecTurns", spec := "vecTurns", inPlace := ["math.Float64bits", "math.Float64frombits", "math.sqrt", "math.RoundToEven", "math.archFloor", "math.archTrunc"], unfollowed := true, recurses := true, apart := false, narrowed := true }
def VecTurnsUptoSaid : Prop := vecTurnsUptoRow.holds Try.pinned (OpenSpec.upto vecTurnsSpec)

/-- 'orrerylaw07.VecEither', WHERE WHAT IT READS IS OF BULK AT MOST 1048576: true; the input reads as it did. -/
def vecEitherUptoRow : OpenClaim := { program := "ytpdkciennccckaa", sum := "4807e282bd7b4fbcd6fdcd5e569cf27091bb89ef75850d9cedc9c4622e39c14d", func := "orrery/orrerylaw07.VecEither", spec := "vecEither", inPlace := ["math.Float64bits", "math.Float64frombits", "math.sqrt"], apart := false, narrowed := true }
def VecEitherUptoSaid : Prop := vecEitherUptoRow.holds Try.pinned (OpenSpec.upto vecEitherSpec)

/-- 'orrerylaw07.VecSmaller', WHERE WHAT IT READS IS OF BULK AT MOST 1048576: true; the input reads as it did. -/
def vecSmallerUptoRow : OpenClaim := { program := "ytpdkciennccckaa", sum := "4807e282bd7b4fbcd6fdcd5e569cf27091bb89ef75850d9cedc9c4622e39c14d", func := "orrery/orrerylaw07.VecSmaller", spec := "vecSmaller", inPlace := ["math.Float64bits", "math.Float64frombits", "math.sqrt"], unfollowed := true, recurses := true, apart := false, narrowed := true }
def VecSmallerUptoSaid : Prop := vecSmallerUptoRow.holds Try.pinned (OpenSpec.upto vecSmallerSpec)

/-- 'orrerylaw07.VecBack', WHERE WHAT IT READS IS OF BULK AT MOST 1048576: true; the input reads as it did. -/
def vecBackUptoRow : OpenClaim := { program := "ytpdkciennccckaa", sum := "4807e282bd7b4fbcd6fdcd5e569cf27091bb89ef75850d9cedc9c4622e39c14d", func := "orrery/orrerylaw07.VecBack", spec := "vecBack", inPlace := ["math.Float64bits", "math.Float64frombits", "math.sqrt", "math.RoundToEven"], unfollowed := true, recurses := true, apart := false, narrowed := true }
def VecBackUptoSaid : Prop := vecBackUptoRow.holds Try.pinned (OpenSpec.upto vecBackSpec)

/-- 'orrerylaw07.VecHolds', WHERE WHAT IT READS IS OF BULK AT MOST 1048576: true; the input reads as it did. -/
def vecHoldsUptoRow : OpenClaim := { program := "ytpdkciennccckaa", sum := "4807e282bd7b4fbcd6fdcd5e569cf27091bb89ef75850d9cedc9c4622e39c14d", func := "orrery/orrerylaw07.VecHolds", spec := "vecHolds", inPlace := ["math.Float64bits", "math.Float64frombits", "math.sqrt", "math.RoundToEven", "math.archCeil", "math.archFloor", "math.archTrunc"], unfollowed := true, recurses := true, apart := false, narrowed := true }
def VecHoldsUptoSaid : Prop := vecHoldsUptoRow.holds Try.pinned (OpenSpec.upto vecHoldsSpec)

/-- 'orrerylaw07.VecUnits', WHERE WHAT IT READS IS OF BULK AT MOST 1048576: true; the input reads as it did. -/
def vecUnitsUptoRow : OpenClaim := { program := "ytpdkciennccckaa", sum := "4807e282bd7b4fbcd6fdcd5e569cf27091bb89ef75850d9cedc9c4622e39c14d", func := "orrery/orrerylaw07.VecUnits", spec := "vecUnits", inPlace := ["math.Float64bits", "math.Float64frombits", "math.sqrt"], apart := false, narrowed := true }
def VecUnitsUptoSaid : Prop := vecUnitsUptoRow.holds Try.pinned (OpenSpec.upto vecUnitsSpec)

end Rows
end Go.Proofs.Ytpdkciennccckaa
