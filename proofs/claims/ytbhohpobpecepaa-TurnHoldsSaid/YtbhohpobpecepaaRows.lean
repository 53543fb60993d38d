/-
  No cell of these rows narrows 'for every input' (looked for: loops, veiled, ifaces, maps, wideKeys, modest, calm, conditions, laid).
  DERIVED. THE GIVEN ROWS OF THIS SEAT. 7 by the template 'for every input the law returns true; each argument reads behind the call as it read before'; 0 by the template 'total and deterministic' (their statements: YtbhohpobpecepaaTotals.lean).
  GIVEN WITH THE SEED: the statements are not yours to turn. If you find one false, say at which input.
  Laid BY PROGRAM, IN A SANDBOX (cutbox-rows.mjs): the forced cells as the released guide's own fill.sh prints them over the translation 32a6f3c59ec67947… (all of the seat's roots in one cut). By AI agents, Wed Nov 11 2026. No macro, syntax, notation, axiom, sorry.
-/
import Derived.Test.YtbhohpobpecepaaChecked
import GoSem.Claim
import GoSem.ClaimJoined
import GoSem.ClaimMapViews
import Derived.JoinedTies
import Derived.KernelRfl
namespace Go.Proofs.Ytbhohpobpecepaa
/- THE CELL 'sum', in the pinned program and in every row, IS THE sha256 OF THE DUMP (.gsa) THAT YtbhohpobpecepaaProg.lean LOADS. Nothing in Lean hashes anything: it is a label: what it is worth is what the hold of that sum in a sandbox is worth. -/
noncomputable def Try.pinned : Pinned := { name := "ytbhohpobpecepaa", sum := "32a6f3c59ec679470d106bc64897765086634e3ebe4b3fc6a983643666b97c41", checked := Try.checked }
namespace Rows
def none {H : Type} : Left H := { results := [], args := [] }

/-- 'orrerylaw05.TurnTells': WHATEVER THE INPUT: true; the input reads as it did. -/
def turnTellsSpec : ChangeSpec := { name := "turnTells", fn := fun _ => fun
  | [d] => { results := [.lit (.bool true)], args := [d] }
  | _ => none }
def turnTellsRow : OpenClaim := { program := "ytbhohpobpecepaa", sum := "32a6f3c59ec679470d106bc64897765086634e3ebe4b3fc6a983643666b97c41", func := "orrery/orrerylaw05.TurnTells", spec := "turnTells", inPlace := ["math.Float64bits", "math.Float64frombits", "math.RoundToEven", "math.archFloor", "math.archTrunc"], unfollowed := true, recurses := true, apart := false }
def TurnTellsSaid : Prop := turnTellsRow.holds Try.pinned (OpenSpec.ofChange turnTellsSpec)

/-- ITS FALSE NEIGHBOUR: 'it returns false'. Refute it at one input. -/
def turnTellsWrong : ChangeSpec := { name := "turnTells", fn := fun _ => fun
  | [d] => { results := [.lit (.bool false)], args := [d] }
  | _ => none }
def TurnTellsWrongFalsely : Prop := turnTellsRow.holds Try.pinned (OpenSpec.ofChange turnTellsWrong)

/-- 'orrerylaw05.TurnMirrors': WHATEVER THE INPUT: true; the input reads as it did. -/
def turnMirrorsSpec : ChangeSpec := { name := "turnMirrors", fn := fun _ => fun
  | [d] => { results := [.lit (.bool true)], args := [d] }
  | _ => none }
def turnMirrorsRow : OpenClaim := { program := "ytbhohpobpecepaa", sum := "32a6f3c59ec679470d106bc64897765086634e3ebe4b3fc6a983643666b97c41", func := "orrery/orrerylaw05.TurnMirrors", spec := "turnMirrors", inPlace := ["math.Float64bits", "math.Float64frombits", "math.RoundToEven"], unfollowed := true, recurses := true, apart := false }
def TurnMirrorsSaid : Prop := turnMirrorsRow.holds Try.pinned (OpenSpec.ofChange turnMirrorsSpec)

/-- ITS FALSE NEIGHBOUR: 'it returns false'. Refute it at one input. -/
def turnMirrorsWrong : ChangeSpec := { name := "turnMirrors", fn := fun _ => fun
  | [d] => { results := [.lit (.bool false)], args := [d] }
  | _ => none }
def TurnMirrorsWrongFalsely : Prop := turnMirrorsRow.holds Try.pinned (OpenSpec.ofChange turnMirrorsWrong)

/-- 'orrerylaw05.TurnRounds': WHATEVER THE INPUT: true; the input reads as it did. -/
def turnRoundsSpec : ChangeSpec := { name := "turnRounds", fn := fun _ => fun
  | [d] => { results := [.lit (.bool true)], args := [d] }
  | _ => none }
def turnRoundsRow : OpenClaim := { program := "ytbhohpobpecepaa", sum := "32a6f3c59ec679470d106bc64897765086634e3ebe4b3fc6a983643666b97c41", func := "orrery/orrerylaw05.TurnRounds", spec := "turnRounds", inPlace := ["math.Float64bits", "math.Float64frombits", "math.RoundToEven"], unfollowed := true, recurses := true, apart := false }
def TurnRoundsSaid : Prop := turnRoundsRow.holds Try.pinned (OpenSpec.ofChange turnRoundsSpec)

/-- ITS FALSE NEIGHBOUR: 'it returns false'. Refute it at one input. -/
def turnRoundsWrong : ChangeSpec := { name := "turnRounds", fn := fun _ => fun
  | [d] => { results := [.lit (.bool false)], args := [d] }
  | _ => none }
def TurnRoundsWrongFalsely : Prop := turnRoundsRow.holds Try.pinned (OpenSpec.ofChange turnRoundsWrong)

/-- 'orrerylaw05.TurnCircles': WHATEVER THE INPUT: true; the input reads as it did. -/
def turnCirclesSpec : ChangeSpec := { name := "turnCircles", fn := fun _ => fun
  | [d] => { results := [.lit (.bool true)], args := [d] }
  | _ => none }
def turnCirclesRow : OpenClaim := { program := "ytbhohpobpecepaa", sum := "32a6f3c59ec679470d106bc64897765086634e3ebe4b3fc6a983643666b97c41", func := "orrery/orrerylaw05.TurnCircles", spec := "turnCircles", inPlace := ["math.Float64bits", "math.Float64frombits", "math.RoundToEven"], unfollowed := true, recurses := true, apart := false }
def TurnCirclesSaid : Prop := turnCirclesRow.holds Try.pinned (OpenSpec.ofChange turnCirclesSpec)

/-- ITS FALSE NEIGHBOUR: 'it returns false'. Refute it at one input. -/
def turnCirclesWrong : ChangeSpec := { name := "turnCircles", fn := fun _ => fun
  | [d] => { results := [.lit (.bool false)], args := [d] }
  | _ => none }
def TurnCirclesWrongFalsely : Prop := turnCirclesRow.holds Try.pinned (OpenSpec.ofChange turnCirclesWrong)

/-- 'orrerylaw05.TurnHolds': WHATEVER THE INPUT: true; the input reads as it did. -/
def turnHoldsSpec : ChangeSpec := { name := "turnHolds", fn := fun _ => fun
  | [d1, d2] => { results := [.lit (.bool true)], args := [d1, d2] }
  | _ => none }
def turnHoldsRow : OpenClaim := { program := "ytbhohpobpecepaa", sum := "32a6f3c59ec679470d106bc64897765086634e3ebe4b3fc6a983643666b97c41", func := "orrery/orrerylaw05.TurnHolds", spec := "turnHolds", inPlace := ["math.Float64bits", "math.Float64frombits", "math.RoundToEven", "math.archCeil", "math.archFloor", "math.archTrunc"], unfollowed := true, recurses := true, apart := false }
def TurnHoldsSaid : Prop := turnHoldsRow.holds Try.pinned (OpenSpec.ofChange turnHoldsSpec)

/-- ITS FALSE NEIGHBOUR: 'it returns false'. Refute it at one input. -/
def turnHoldsWrong : ChangeSpec := { name := "turnHolds", fn := fun _ => fun
  | [d1, d2] => { results := [.lit (.bool false)], args := [d1, d2] }
  | _ => none }
def TurnHoldsWrongFalsely : Prop := turnHoldsRow.holds Try.pinned (OpenSpec.ofChange turnHoldsWrong)

/-- 'orrerylaw05.TurnOnes': WHATEVER THE INPUT: true; the input reads as it did. -/
def turnOnesSpec : ChangeSpec := { name := "turnOnes", fn := fun _ => fun
  | [d] => { results := [.lit (.bool true)], args := [d] }
  | _ => none }
def turnOnesRow : OpenClaim := { program := "ytbhohpobpecepaa", sum := "32a6f3c59ec679470d106bc64897765086634e3ebe4b3fc6a983643666b97c41", func := "orrery/orrerylaw05.TurnOnes", spec := "turnOnes", inPlace := ["math.Float64bits", "math.Float64frombits", "math.RoundToEven"], unfollowed := true, recurses := true, apart := false }
def TurnOnesSaid : Prop := turnOnesRow.holds Try.pinned (OpenSpec.ofChange turnOnesSpec)

/-- ITS FALSE NEIGHBOUR: 'it returns false'. Refute it at one input. -/
def turnOnesWrong : ChangeSpec := { name := "turnOnes", fn := fun _ => fun
  | [d] => { results := [.lit (.bool false)], args := [d] }
  | _ => none }
def TurnOnesWrongFalsely : Prop := turnOnesRow.holds Try.pinned (OpenSpec.ofChange turnOnesWrong)

/-- 'orrerylaw05.TurnDoubles': WHATEVER THE INPUT: true; the input reads as it did. -/
def turnDoublesSpec : ChangeSpec := { name := "turnDoubles", fn := fun _ => fun
  | [d] => { results := [.lit (.bool true)], args := [d] }
  | _ => none }
def turnDoublesRow : OpenClaim := { program := "ytbhohpobpecepaa", sum := "32a6f3c59ec679470d106bc64897765086634e3ebe4b3fc6a983643666b97c41", func := "orrery/orrerylaw05.TurnDoubles", spec := "turnDoubles", inPlace := ["math.Float64bits", "math.Float64frombits", "math.RoundToEven"], unfollowed := true, recurses := true, apart := false }
def TurnDoublesSaid : Prop := turnDoublesRow.holds Try.pinned (OpenSpec.ofChange turnDoublesSpec)

/-- ITS FALSE NEIGHBOUR: 'it returns false'. Refute it at one input. -/
def turnDoublesWrong : ChangeSpec := { name := "turnDoubles", fn := fun _ => fun
  | [d] => { results := [.lit (.bool false)], args := [d] }
  | _ => none }
def TurnDoublesWrongFalsely : Prop := turnDoublesRow.holds Try.pinned (OpenSpec.ofChange turnDoublesWrong)

/- THE SECOND FORM. 'bulk': how many values and letters a reading holds, each counted each time it is reached (what is shared counts as often as it is met; a slice's spare places count too). A statement '..UptoSaid' is the law's where the arguments, and the package variables that the reading takes, are together of bulk at most 1048576: NARROWER than '..Said'. Prove '..Said' where nothing that the law and all that it calls make is longer than what came in: it says more and counts as full. Else prove '..UptoSaid'. A law counts once. -/
mutual
def uptoBulk {H : Type} : DataW H → Nat
  | .lit (.string bytes) => bytes.length + 1
  | .lit _ => 1
  | .nil => 1
  | .ptr d => uptoBulk d + 1
  | .slice elems spare => uptoBulkAll elems + uptoBulkAll spare + 1
  | .agg parts => uptoBulkAll parts + 1
  | .iface _ d => uptoBulk d + 1
  | .map entries => uptoBulkEntries entries + 1
  | .held _ => 1
def uptoBulkAll {H : Type} : List (DataW H) → Nat
  | [] => 0
  | d :: r => uptoBulk d + uptoBulkAll r
def uptoBulkEntries {H : Type} : List (Lit × DataW H) → Nat
  | [] => 0
  | x :: r => uptoBulkEntry x + uptoBulkEntries r
def uptoBulkEntry {H : Type} : Lit × DataW H → Nat
  | (.string bytes, d) => bytes.length + uptoBulk d + 1
  | (_, d) => uptoBulk d + 1
 end
def uptoSmall : (H : Type) → List (DataW H) → Bool := fun _ ds => decide (uptoBulkAll ds ≤ 1048576)
def OpenSpec.upto (s : _root_.Go.ChangeSpec) : _root_.Go.OpenSpec := { _root_.Go.OpenSpec.ofChange s with cond := some uptoSmall }

/-- 'orrerylaw05.TurnTells', WHERE WHAT IT READS IS OF BULK AT MOST 1048576: true; the input reads as it did. -/
def turnTellsUptoRow : OpenClaim := { program := "ytbhohpobpecepaa", sum := "32a6f3c59ec679470d106bc64897765086634e3ebe4b3fc6a983643666b97c41", func := "orrery/orrerylaw05.TurnTells", spec := "turnTells", inPlace := ["math.Float64bits", "math.Float64frombits", "math.RoundToEven", "math.archFloor", "math.archTrunc"], unfollowed := true, recurses := true, apart := false, narrowed := true }
def TurnTellsUptoSaid : Prop := turnTellsUptoRow.holds Try.pinned (OpenSpec.upto turnTellsSpec)

/-- 'orrerylaw05.TurnMirrors', WHERE WHAT IT READS IS OF BULK AT MOST 1048576: true; the input reads as it did. -/
def turnMirrorsUptoRow : OpenClaim := { program := "ytbhohpobpecepaa", sum := "32a6f3c59ec679470d106bc64897765086634e3ebe4b3fc6a983643666b97c41", func := "orrery/orrerylaw05.TurnMirrors", spec := "turnMirrors", inPlace := ["math.Float64bits", "math.Float64frombits", "math.RoundToEven"], unfollowed := true, recurses := true, apart := false, narrowed := true }
def TurnMirrorsUptoSaid : Prop := turnMirrorsUptoRow.holds Try.pinned (OpenSpec.upto turnMirrorsSpec)

/-- 'orrerylaw05.TurnRounds', WHERE WHAT IT READS IS OF BULK AT MOST 1048576: true; the input reads as it did. -/
def turnRoundsUptoRow : OpenClaim := { program := "ytbhohpobpecepaa", sum := "32a6f3c59ec679470d106bc64897765086634e3ebe4b3fc6a983643666b97c41", func := "orrery/orrerylaw05.TurnRounds", spec := "turnRounds", inPlace := ["math.Float64bits", "math.Float64frombits", "math.RoundToEven"], unfollowed := true, recurses := true, apart := false, narrowed := true }
def TurnRoundsUptoSaid : Prop := turnRoundsUptoRow.holds Try.pinned (OpenSpec.upto turnRoundsSpec)

/-- 'orrerylaw05.TurnCircles', WHERE WHAT IT READS IS OF BULK AT MOST 1048576: true; the input reads as it did. -/
def turnCirclesUptoRow : OpenClaim := { program := "ytbhohpobpecepaa", sum := "32a6f3c59ec679470d106bc64897765086634e3ebe4b3fc6a983643666b97c41", func := "orrery/orrerylaw05.TurnCircles", spec := "turnCircles", inPlace := ["math.Float64bits", "math.Float64frombits", "math.RoundToEven"], unfollowed := true, recurses := true, apart := false, narrowed := true }
def TurnCirclesUptoSaid : Prop := turnCirclesUptoRow.holds Try.pinned (OpenSpec.upto turnCirclesSpec)

/-- 'orrerylaw05.TurnHolds', WHERE WHAT IT READS IS OF BULK AT MOST 1048576: true; the input reads as it did. -/
def turnHoldsUptoRow : OpenClaim := { program := "ytbhohpobpecepaa", sum := "32a6f3c59ec679470d106bc64897765086634e3ebe4b3fc6a983643666b97c41", func := "orrery/orrerylaw05.TurnHolds", spec := "turnHolds", inPlace := ["math.Float64bits", "math.Float64frombits", "math.RoundToEven", "math.archCeil", "math.archFloor", "math.archTrunc"], unfollowed := true, recurses := true, apart := false, narrowed := true }
def TurnHoldsUptoSaid : Prop := turnHoldsUptoRow.holds Try.pinned (OpenSpec.upto turnHoldsSpec)

/-- 'orrerylaw05.TurnOnes', WHERE WHAT IT READS IS OF BULK AT MOST 1048576: true; the input reads as it did. -/
def turnOnesUptoRow : OpenClaim := { program := "ytbhohpobpecepaa", sum := "32a6f3c59ec679470d106bc64897765086634e3ebe4b3fc6a983643666b97c41", func := "orrery/orrerylaw05.TurnOnes", spec := "turnOnes", inPlace := ["math.Float64bits", "math.Float64frombits", "math.RoundToEven"], unfollowed := true, recurses := true, apart := false, narrowed := true }
def TurnOnesUptoSaid : Prop := turnOnesUptoRow.holds Try.pinned (OpenSpec.upto turnOnesSpec)

/-- 'orrerylaw05.TurnDoubles', WHERE WHAT IT READS IS OF BULK AT MOST 1048576: true; the input reads as it did. -/
def turnDoublesUptoRow : OpenClaim := { program := "ytbhohpobpecepaa", sum := "32a6f3c59ec679470d106bc64897765086634e3ebe4b3fc6a983643666b97c41", func := "orrery/orrerylaw05.TurnDoubles", spec := "turnDoubles", inPlace := ["math.Float64bits", "math.Float64frombits", "math.RoundToEven"], unfollowed := true, recurses := true, apart := false, narrowed := true }
def TurnDoublesUptoSaid : Prop := turnDoublesUptoRow.holds Try.pinned (OpenSpec.upto turnDoublesSpec)

end Rows
end Go.Proofs.Ytbhohpobpecepaa
