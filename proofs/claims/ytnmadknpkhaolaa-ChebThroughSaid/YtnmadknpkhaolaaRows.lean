/-
  No cell of these rows narrows 'for every input' (looked for: loops, veiled, ifaces, maps, wideKeys, modest, calm, conditions, laid).
  DERIVED. THE GIVEN ROWS OF THIS SEAT. 6 by the template 'for every input the law returns true; each argument reads behind the call as it read before'; 0 by the template 'total and deterministic' (their statements: YtnmadknpkhaolaaTotals.lean).
  GIVEN WITH THE SEED: the statements are not yours to turn. If you find one false, say at which input.
  Laid BY PROGRAM, IN A SANDBOX (cutbox-rows.mjs): the forced cells as the released guide's own fill.sh prints them over the translation 13ff5b788ced9217… (all of the seat's roots in one cut). By AI agents, Wed Nov 11 2026. No macro, syntax, notation, axiom, sorry.
-/
import Derived.Test.YtnmadknpkhaolaaChecked
import GoSem.Claim
import GoSem.ClaimJoined
import GoSem.ClaimMapViews
import Derived.JoinedTies
import Derived.KernelRfl
namespace Go.Proofs.Ytnmadknpkhaolaa
/- THE CELL 'sum', in the pinned program and in every row, IS THE sha256 OF THE DUMP (.gsa) THAT YtnmadknpkhaolaaProg.lean LOADS. Nothing in Lean hashes anything: it is a label: what it is worth is what the hold of that sum in a sandbox is worth. -/
noncomputable def Try.pinned : Pinned := { name := "ytnmadknpkhaolaa", sum := "13ff5b788ced9217b42391f97700c735ef5af2b22a52f0e84099eaf69d0e127f", checked := Try.checked }
namespace Rows
def none {H : Type} : Left H := { results := [], args := [] }

/-- 'orrerylaw13.ChebFits': WHATEVER THE INPUT: true; the input reads as it did. -/
def chebFitsSpec : ChangeSpec := { name := "chebFits", fn := fun _ => fun
  | [d1, d2] => { results := [.lit (.bool true)], args := [d1, d2] }
  | _ => none }
def chebFitsRow : OpenClaim := { program := "ytnmadknpkhaolaa", sum := "13ff5b788ced9217b42391f97700c735ef5af2b22a52f0e84099eaf69d0e127f", func := "orrery/orrerylaw13.ChebFits", spec := "chebFits", inPlace := ["math.Float64bits", "math.Float64frombits", "math.archFloor", "math.archTrunc", "math.RoundToEven"], unfollowed := true, recurses := true, apart := false }
def ChebFitsSaid : Prop := chebFitsRow.holds Try.pinned (OpenSpec.ofChange chebFitsSpec)

/-- ITS FALSE NEIGHBOUR: 'it returns false'. Refute it at one input. -/
def chebFitsWrong : ChangeSpec := { name := "chebFits", fn := fun _ => fun
  | [d1, d2] => { results := [.lit (.bool false)], args := [d1, d2] }
  | _ => none }
def ChebFitsWrongFalsely : Prop := chebFitsRow.holds Try.pinned (OpenSpec.ofChange chebFitsWrong)

/-- 'orrerylaw13.ChebTells': WHATEVER THE INPUT: true; the input reads as it did. -/
def chebTellsSpec : ChangeSpec := { name := "chebTells", fn := fun _ => fun
  | [d1, d2] => { results := [.lit (.bool true)], args := [d1, d2] }
  | _ => none }
def chebTellsRow : OpenClaim := { program := "ytnmadknpkhaolaa", sum := "13ff5b788ced9217b42391f97700c735ef5af2b22a52f0e84099eaf69d0e127f", func := "orrery/orrerylaw13.ChebTells", spec := "chebTells", inPlace := ["math.Float64bits", "math.Float64frombits", "math.archFloor", "math.archTrunc", "math.Float32bits"], apart := false }
def ChebTellsSaid : Prop := chebTellsRow.holds Try.pinned (OpenSpec.ofChange chebTellsSpec)

/-- ITS FALSE NEIGHBOUR: 'it returns false'. Refute it at one input. -/
def chebTellsWrong : ChangeSpec := { name := "chebTells", fn := fun _ => fun
  | [d1, d2] => { results := [.lit (.bool false)], args := [d1, d2] }
  | _ => none }
def ChebTellsWrongFalsely : Prop := chebTellsRow.holds Try.pinned (OpenSpec.ofChange chebTellsWrong)

/-- 'orrerylaw13.ChebThrough': WHATEVER THE INPUT: true; the input reads as it did. -/
def chebThroughSpec : ChangeSpec := { name := "chebThrough", fn := fun _ => fun
  | [d] => { results := [.lit (.bool true)], args := [d] }
  | _ => none }
def chebThroughRow : OpenClaim := { program := "ytnmadknpkhaolaa", sum := "13ff5b788ced9217b42391f97700c735ef5af2b22a52f0e84099eaf69d0e127f", func := "orrery/orrerylaw13.ChebThrough", spec := "chebThrough", inPlace := ["math.Float64bits", "math.Float64frombits", "math.archFloor", "math.archTrunc", "math.RoundToEven"], unfollowed := true, recurses := true, apart := false }
def ChebThroughSaid : Prop := chebThroughRow.holds Try.pinned (OpenSpec.ofChange chebThroughSpec)

/-- ITS FALSE NEIGHBOUR: 'it returns false'. Refute it at one input. -/
def chebThroughWrong : ChangeSpec := { name := "chebThrough", fn := fun _ => fun
  | [d] => { results := [.lit (.bool false)], args := [d] }
  | _ => none }
def ChebThroughWrongFalsely : Prop := chebThroughRow.holds Try.pinned (OpenSpec.ofChange chebThroughWrong)

/-- 'orrerylaw13.ChebNarrows': WHATEVER THE INPUT: true; the input reads as it did. -/
def chebNarrowsSpec : ChangeSpec := { name := "chebNarrows", fn := fun _ => fun
  | [d1, d2] => { results := [.lit (.bool true)], args := [d1, d2] }
  | _ => none }
def chebNarrowsRow : OpenClaim := { program := "ytnmadknpkhaolaa", sum := "13ff5b788ced9217b42391f97700c735ef5af2b22a52f0e84099eaf69d0e127f", func := "orrery/orrerylaw13.ChebNarrows", spec := "chebNarrows", inPlace := ["math.Float64bits", "math.Float64frombits", "math.archFloor", "math.archTrunc", "math.Float32frombits", "math.Float32bits"], apart := false }
def ChebNarrowsSaid : Prop := chebNarrowsRow.holds Try.pinned (OpenSpec.ofChange chebNarrowsSpec)

/-- ITS FALSE NEIGHBOUR: 'it returns false'. Refute it at one input. -/
def chebNarrowsWrong : ChangeSpec := { name := "chebNarrows", fn := fun _ => fun
  | [d1, d2] => { results := [.lit (.bool false)], args := [d1, d2] }
  | _ => none }
def ChebNarrowsWrongFalsely : Prop := chebNarrowsRow.holds Try.pinned (OpenSpec.ofChange chebNarrowsWrong)

/-- 'orrerylaw13.ChebHolds': WHATEVER THE INPUT: true; the input reads as it did. -/
def chebHoldsSpec : ChangeSpec := { name := "chebHolds", fn := fun _ => fun
  | [d1, d2, d3] => { results := [.lit (.bool true)], args := [d1, d2, d3] }
  | _ => none }
def chebHoldsRow : OpenClaim := { program := "ytnmadknpkhaolaa", sum := "13ff5b788ced9217b42391f97700c735ef5af2b22a52f0e84099eaf69d0e127f", func := "orrery/orrerylaw13.ChebHolds", spec := "chebHolds", inPlace := ["math.Float64bits", "math.Float64frombits", "math.archFloor", "math.archTrunc"], unfollowed := true, recurses := true, apart := false }
def ChebHoldsSaid : Prop := chebHoldsRow.holds Try.pinned (OpenSpec.ofChange chebHoldsSpec)

/-- ITS FALSE NEIGHBOUR: 'it returns false'. Refute it at one input. -/
def chebHoldsWrong : ChangeSpec := { name := "chebHolds", fn := fun _ => fun
  | [d1, d2, d3] => { results := [.lit (.bool false)], args := [d1, d2, d3] }
  | _ => none }
def ChebHoldsWrongFalsely : Prop := chebHoldsRow.holds Try.pinned (OpenSpec.ofChange chebHoldsWrong)

/-- 'orrerylaw13.ChebEnds': WHATEVER THE INPUT: true; the input reads as it did. -/
def chebEndsSpec : ChangeSpec := { name := "chebEnds", fn := fun _ => fun
  | [d1, d2, d3] => { results := [.lit (.bool true)], args := [d1, d2, d3] }
  | _ => none }
def chebEndsRow : OpenClaim := { program := "ytnmadknpkhaolaa", sum := "13ff5b788ced9217b42391f97700c735ef5af2b22a52f0e84099eaf69d0e127f", func := "orrery/orrerylaw13.ChebEnds", spec := "chebEnds", inPlace := ["math.Float64bits", "math.Float64frombits", "math.archFloor", "math.archTrunc", "math.Float32bits"], apart := false }
def ChebEndsSaid : Prop := chebEndsRow.holds Try.pinned (OpenSpec.ofChange chebEndsSpec)

/-- ITS FALSE NEIGHBOUR: 'it returns false'. Refute it at one input. -/
def chebEndsWrong : ChangeSpec := { name := "chebEnds", fn := fun _ => fun
  | [d1, d2, d3] => { results := [.lit (.bool false)], args := [d1, d2, d3] }
  | _ => none }
def ChebEndsWrongFalsely : Prop := chebEndsRow.holds Try.pinned (OpenSpec.ofChange chebEndsWrong)

/- THE SECOND FORM. 'bulk': how many values and letters a reading holds, each counted each time it is reached (what is shared counts as often as it is met; a slice's spare places count too). A statement '..UptoSaid' is the law's where the arguments, and the package variables that the reading takes, are together of bulk at most 1048576: NARROWER than '..Said'. Prove '..Said' where nothing that the law and all that it calls make is longer than what came in: it says more and counts as full. Else prove '..UptoSaid'. A law counts once. -/
mutual
def uptoBulk {H : Type} : DataW H → Nat
  | .lit (.string bytes) => bytes.length + 1
  | .lit _ => 1
  | .nil => 1
  | .ptr d => uptoBulk d + 1
  | .slice elems spare => uptoBulkAll elems + uptoBulkAll spare + 1
  | .agg parts => uptoBulkAll parts + 1
  | .iface _ d => uptoBulk d + 1
  | .map entries => uptoBulkEntries entries + 1
  | .held _ => 1
def uptoBulkAll {H : Type} : List (DataW H) → Nat
  | [] => 0
  | d :: r => uptoBulk d + uptoBulkAll r
def uptoBulkEntries {H : Type} : List (Lit × DataW H) → Nat
  | [] => 0
  | x :: r => uptoBulkEntry x + uptoBulkEntries r
def uptoBulkEntry {H : Type} : Lit × DataW H → Nat
  | (.string bytes, d) => bytes.length + uptoBulk d + 1
  | (_, d) => uptoBulk d + 1
 end
def uptoSmall : (H : Type) → List (DataW H) → Bool := fun _ ds => decide (uptoBulkAll ds ≤ 1048576)
def OpenSpec.upto (s : _root_.Go.ChangeSpec) : _root_.Go.OpenSpec := { _root_.Go.OpenSpec.ofChange s with cond := some uptoSmall }

/-- 'orrerylaw13.ChebFits', WHERE WHAT IT READS IS OF BULK AT MOST 1048576: true; the input reads as it did. -/
def chebFitsUptoRow : OpenClaim := { program := "ytnmadknpkhaolaa", sum := "13ff5b788ced9217b42391f97700c735ef5af2b22a52f0e84099eaf69d0e127f", func := "orrery/orrerylaw13.ChebFits", spec := "chebFits", inPlace := ["math.Float64bits", "math.Float64frombits", "math.archFloor", "math.archTrunc", "math.RoundToEven"], unfollowed := true, recurses := true, apart := false, narrowed := true }
def ChebFitsUptoSaid : Prop := chebFitsUptoRow.holds Try.pinned (OpenSpec.upto chebFitsSpec)

/-- 'orrerylaw13.ChebTells', WHERE WHAT IT READS IS OF BULK AT MOST 1048576: true; the input reads as it did. -/
def chebTellsUptoRow : OpenClaim := { program := "ytnmadknpkhaolaa", sum := "13ff5b788ced9217b42391f97700c735ef5af2b22a52f0e84099eaf69d0e127f", func := "orrery/orrerylaw13.ChebTells", spec := "chebTells", inPlace := ["math.Float64bits", "math.Float64frombits", "math.archFloor", "math.archTrunc", "math.Float32bits"], apart := false, narrowed := true }
def ChebTellsUptoSaid : Prop := chebTellsUptoRow.holds Try.pinned (OpenSpec.upto chebTellsSpec)

/-- 'orrerylaw13.ChebThrough', WHERE WHAT IT READS IS OF BULK AT MOST 1048576: true; the input reads as it did. -/
def chebThroughUptoRow : OpenClaim := { program := "ytnmadknpkhaolaa", sum := "13ff5b788ced9217b42391f97700c735ef5af2b22a52f0e84099eaf69d0e127f", func := "orrery/orrerylaw13.ChebThrough", spec := "chebThrough", inPlace := ["math.Float64bits", "math.Float64frombits", "math.archFloor", "math.archTrunc", "math.RoundToEven"], unfollowed := true, recurses := true, apart := false, narrowed := true }
def ChebThroughUptoSaid : Prop := chebThroughUptoRow.holds Try.pinned (OpenSpec.upto chebThroughSpec)

/-- 'orrerylaw13.ChebNarrows', WHERE WHAT IT READS IS OF BULK AT MOST 1048576: true; the input reads as it did. -/
def chebNarrowsUptoRow : OpenClaim := { program := "ytnmadknpkhaolaa", sum := "13ff5b788ced9217b42391f97700c735ef5af2b22a52f0e84099eaf69d0e127f", func := "orrery/orrerylaw13.ChebNarrows", spec := "chebNarrows", inPlace := ["math.Float64bits", "math.Float64frombits", "math.archFloor", "math.archTrunc", "math.Float32frombits", "math.Float32bits"], apart := false, narrowed := true }
def ChebNarrowsUptoSaid : Prop := chebNarrowsUptoRow.holds Try.pinned (OpenSpec.upto chebNarrowsSpec)

/-- 'orrerylaw13.ChebHolds', WHERE WHAT IT READS IS OF BULK AT MOST 1048576: true; the input reads as it did. -/
def chebHoldsUptoRow : OpenClaim := { program := "ytnmadknpkhaolaa", sum := "13ff5b788ced9217b42391f97700c735ef5af2b22a52f0e84099eaf69d0e127f", func := "orrery/orrerylaw13.ChebHolds", spec := "chebHolds", inPlace := ["math.Float64bits", "math.Float64frombits", "math.archFloor", "math.archTrunc"], unfollowed := true, recurses := true, apart := false, narrowed := true }
def ChebHoldsUptoSaid : Prop := chebHoldsUptoRow.holds Try.pinned (OpenSpec.upto chebHoldsSpec)

/-- 'orrerylaw13.ChebEnds', WHERE WHAT IT READS IS OF BULK AT MOST 1048576: true; the input reads as it did. -/
def chebEndsUptoRow : OpenClaim := { program := "ytnmadknpkhaolaa", sum := "13ff5b788ced9217b42391f97700c735ef5af2b22a52f0e84099eaf69d0e127f", func := "orrery/orrerylaw13.ChebEnds", spec := "chebEnds", inPlace := ["math.Float64bits", "math.Float64frombits", "math.archFloor", "math.archTrunc", "math.Float32bits"], apart := false, narrowed := true }
def ChebEndsUptoSaid : Prop := chebEndsUptoRow.holds Try.pinned (OpenSpec.upto chebEndsSpec)

end Rows
end Go.Proofs.Ytnmadknpkhaolaa
