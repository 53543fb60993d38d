/-
  No cell of these rows narrows 'for every input' (looked for: loops, veiled, ifaces, maps, wideKeys, modest, calm, conditions, laid).
  DERIVED. THE GIVEN ROWS OF THIS SEAT. 5 by the template 'for every input the law returns true; each argument reads behind the call as it read before'; 0 by the template 'total and deterministic' (their statements: YtkpdnhbifokhlaaTotals.lean).
  GIVEN WITH THE SEED: the statements are not yours to turn. If you find one false, say at which input.
  Laid BY PROGRAM, IN A SANDBOX (cutbox-rows.mjs): the forced cells as the released guide's own fill.sh prints them over the translation 35a2fe21bd177abe… (all of the seat's roots in one cut). By AI agents, Wed Nov 11 2026. No macro, syntax, notation, axiom, sorry.
-/
import Derived.Test.YtkpdnhbifokhlaaChecked
import GoSem.Claim
import GoSem.ClaimJoined
import GoSem.ClaimMapViews
import Derived.JoinedTies
import Derived.KernelRfl
namespace Go.Proofs.Ytkpdnhbifokhlaa
/- THE CELL 'sum', in the pinned program and in every row, IS THE sha256 OF THE DUMP (.gsa) THAT YtkpdnhbifokhlaaProg.lean LOADS. Nothing in Lean hashes anything: it is a label: what it is worth is what the hold of that sum in a sandbox is worth. -/
noncomputable def Try.pinned : Pinned := { name := "ytkpdnhbifokhlaa", sum := "35a2fe21bd177abee1151523a400f3adbaeb8c609411d0266c6ac9a3787f16ae", checked := Try.checked }
namespace Rows
def none {H : Type} : Left H := { results := [], args := [] }

/-- 'orrerylaw11.OrbitTells': WHATEVER THE INPUT: true; the input reads as it did. -/
def orbitTellsSpec : ChangeSpec := { name := "orbitTells", fn := fun _ => fun
  | [d1, d2, d3, d4] => { results := [.lit (.bool true)], args := [d1, d2, d3, d4] }
  | _ => none }
def orbitTellsRow : OpenClaim := { program := "ytkpdnhbifokhlaa", sum := "35a2fe21bd177abee1151523a400f3adbaeb8c609411d0266c6ac9a3787f16ae", func := "orrery/orrerylaw11.OrbitTells", spec := "orbitTells", inPlace := ["math.Float64bits", "math.Float64frombits", "math.RoundToEven", "math.archFloor", "math.archTrunc", "math.sqrt"], unfollowed := true, recurses := true, apart := false }
def OrbitTellsSaid : Prop := orbitTellsRow.holds Try.pinned (OpenSpec.ofChange orbitTellsSpec)

/-- ITS FALSE NEIGHBOUR: 'it returns false'. Refute it at one input. -/
def orbitTellsWrong : ChangeSpec := { name := "orbitTells", fn := fun _ => fun
  | [d1, d2, d3, d4] => { results := [.lit (.bool false)], args := [d1, d2, d3, d4] }
  | _ => none }
def OrbitTellsWrongFalsely : Prop := orbitTellsRow.holds Try.pinned (OpenSpec.ofChange orbitTellsWrong)

/-- 'orrerylaw11.OrbitKepler': WHATEVER THE INPUT: true; the input reads as it did. -/
def orbitKeplerSpec : ChangeSpec := { name := "orbitKepler", fn := fun _ => fun
  | [d1, d2] => { results := [.lit (.bool true)], args := [d1, d2] }
  | _ => none }
def orbitKeplerRow : OpenClaim := { program := "ytkpdnhbifokhlaa", sum := "35a2fe21bd177abee1151523a400f3adbaeb8c609411d0266c6ac9a3787f16ae", func := "orrery/orrerylaw11.OrbitKepler", spec := "orbitKepler", inPlace := ["math.Float64bits", "math.Float64frombits", "math.RoundToEven", "math.archFloor", "math.archTrunc"], unfollowed := true, recurses := true, apart := false }
def OrbitKeplerSaid : Prop := orbitKeplerRow.holds Try.pinned (OpenSpec.ofChange orbitKeplerSpec)

/-- ITS FALSE NEIGHBOUR: 'it returns false'. Refute it at one input. -/
def orbitKeplerWrong : ChangeSpec := { name := "orbitKepler", fn := fun _ => fun
  | [d1, d2] => { results := [.lit (.bool false)], args := [d1, d2] }
  | _ => none }
def OrbitKeplerWrongFalsely : Prop := orbitKeplerRow.holds Try.pinned (OpenSpec.ofChange orbitKeplerWrong)

/-- 'orrerylaw11.OrbitEllipse': WHATEVER THE INPUT: true; the input reads as it did. -/
def orbitEllipseSpec : ChangeSpec := { name := "orbitEllipse", fn := fun _ => fun
  | [d1, d2] => { results := [.lit (.bool true)], args := [d1, d2] }
  | _ => none }
def orbitEllipseRow : OpenClaim := { program := "ytkpdnhbifokhlaa", sum := "35a2fe21bd177abee1151523a400f3adbaeb8c609411d0266c6ac9a3787f16ae", func := "orrery/orrerylaw11.OrbitEllipse", spec := "orbitEllipse", inPlace := ["math.Float64bits", "math.Float64frombits", "math.RoundToEven", "math.sqrt"], unfollowed := true, recurses := true, apart := false }
def OrbitEllipseSaid : Prop := orbitEllipseRow.holds Try.pinned (OpenSpec.ofChange orbitEllipseSpec)

/-- ITS FALSE NEIGHBOUR: 'it returns false'. Refute it at one input. -/
def orbitEllipseWrong : ChangeSpec := { name := "orbitEllipse", fn := fun _ => fun
  | [d1, d2] => { results := [.lit (.bool false)], args := [d1, d2] }
  | _ => none }
def OrbitEllipseWrongFalsely : Prop := orbitEllipseRow.holds Try.pinned (OpenSpec.ofChange orbitEllipseWrong)

/-- 'orrerylaw11.OrbitRounds': WHATEVER THE INPUT: true; the input reads as it did. -/
def orbitRoundsSpec : ChangeSpec := { name := "orbitRounds", fn := fun _ => fun
  | [d1, d2] => { results := [.lit (.bool true)], args := [d1, d2] }
  | _ => none }
def orbitRoundsRow : OpenClaim := { program := "ytkpdnhbifokhlaa", sum := "35a2fe21bd177abee1151523a400f3adbaeb8c609411d0266c6ac9a3787f16ae", func := "orrery/orrerylaw11.OrbitRounds", spec := "orbitRounds", inPlace := ["math.Float64bits", "math.Float64frombits", "math.RoundToEven", "math.archFloor", "math.archTrunc", "math.sqrt"], unfollowed := true, recurses := true, apart := false }
def OrbitRoundsSaid : Prop := orbitRoundsRow.holds Try.pinned (OpenSpec.ofChange orbitRoundsSpec)

/-- ITS FALSE NEIGHBOUR: 'it returns false'. Refute it at one input. -/
def orbitRoundsWrong : ChangeSpec := { name := "orbitRounds", fn := fun _ => fun
  | [d1, d2] => { results := [.lit (.bool false)], args := [d1, d2] }
  | _ => none }
def OrbitRoundsWrongFalsely : Prop := orbitRoundsRow.holds Try.pinned (OpenSpec.ofChange orbitRoundsWrong)

/-- 'orrerylaw11.OrbitEdges': WHATEVER THE INPUT: true; the input reads as it did. -/
def orbitEdgesSpec : ChangeSpec := { name := "orbitEdges", fn := fun _ => fun
  | [d1, d2, d3] => { results := [.lit (.bool true)], args := [d1, d2, d3] }
  | _ => none }
def orbitEdgesRow : OpenClaim := { program := "ytkpdnhbifokhlaa", sum := "35a2fe21bd177abee1151523a400f3adbaeb8c609411d0266c6ac9a3787f16ae", func := "orrery/orrerylaw11.OrbitEdges", spec := "orbitEdges", inPlace := ["math.Float64bits", "math.Float64frombits", "math.RoundToEven"], unfollowed := true, recurses := true, apart := false }
def OrbitEdgesSaid : Prop := orbitEdgesRow.holds Try.pinned (OpenSpec.ofChange orbitEdgesSpec)

/-- ITS FALSE NEIGHBOUR: 'it returns false'. Refute it at one input. -/
def orbitEdgesWrong : ChangeSpec := { name := "orbitEdges", fn := fun _ => fun
  | [d1, d2, d3] => { results := [.lit (.bool false)], args := [d1, d2, d3] }
  | _ => none }
def OrbitEdgesWrongFalsely : Prop := orbitEdgesRow.holds Try.pinned (OpenSpec.ofChange orbitEdgesWrong)

/- THE SECOND FORM. 'bulk': how many values and letters a reading holds, each counted each time it is reached (what is shared counts as often as it is met; a slice's spare places count too). A statement '..UptoSaid' is the law's where the arguments, and the package variables that the reading takes, are together of bulk at most 1048576: NARROWER than '..Said'. Prove '..Said' where nothing that the law and all that it calls make is longer than what came in: it says more and counts as full. Else prove '..UptoSaid'. A law counts once. -/
mutual
def uptoBulk {H : Type} : DataW H → Nat
  | .lit (.string bytes) => bytes.length + 1
  | .lit _ => 1
  | .nil => 1
  | .ptr d => uptoBulk d + 1
  | .slice elems spare => uptoBulkAll elems + uptoBulkAll spare + 1
  | .agg parts => uptoBulkAll parts + 1
  | .iface _ d => uptoBulk d + 1
  | .map entries => uptoBulkEntries entries + 1
  | .held _ => 1
def uptoBulkAll {H : Type} : List (DataW H) → Nat
  | [] => 0
  | d :: r => uptoBulk d + uptoBulkAll r
def uptoBulkEntries {H : Type} : List (Lit × DataW H) → Nat
  | [] => 0
  | x :: r => uptoBulkEntry x + uptoBulkEntries r
def uptoBulkEntry {H : Type} : Lit × DataW H → Nat
  | (.string bytes, d) => bytes.length + uptoBulk d + 1
  | (_, d) => uptoBulk d + 1
 end
def uptoSmall : (H : Type) → List (DataW H) → Bool := fun _ ds => decide (uptoBulkAll ds ≤ 1048576)
def OpenSpec.upto (s : _root_.Go.ChangeSpec) : _root_.Go.OpenSpec := { _root_.Go.OpenSpec.ofChange s with cond := some uptoSmall }

/-- 'orrerylaw11.OrbitTells', WHERE WHAT IT READS IS OF BULK AT MOST 1048576: true; the input reads as it did. -/
def orbitTellsUptoRow : OpenClaim := { program := "ytkpdnhbifokhlaa", sum := "35a2fe21bd177abee1151523a400f3adbaeb8c609411d0266c6ac9a3787f16ae", func := "orrery/orrerylaw11.OrbitTells", spec := "orbitTells", inPlace := ["math.Float64bits", "math.Float64frombits", "math.RoundToEven", "math.archFloor", "math.archTrunc", "math.sqrt"], unfollowed := true, recurses := true, apart := false, narrowed := true }
def OrbitTellsUptoSaid : Prop := orbitTellsUptoRow.holds Try.pinned (OpenSpec.upto orbitTellsSpec)

/-- 'orrerylaw11.OrbitKepler', WHERE WHAT IT READS IS OF BULK AT MOST 1048576: true; the input reads as it did. -/
def orbitKeplerUptoRow : OpenClaim := { program := "ytkpdnhbifokhlaa", sum := "35a2fe21bd177abee1151523a400f3adbaeb8c609411d0266c6ac9a3787f16ae", func := "orrery/orrerylaw11.OrbitKepler", spec := "orbitKepler", inPlace := ["math.Float64bits", "math.Float64frombits", "math.RoundToEven", "math.archFloor", "math.archTrunc"], unfollowed := true, recurses := true, apart := false, narrowed := true }
def OrbitKeplerUptoSaid : Prop := orbitKeplerUptoRow.holds Try.pinned (OpenSpec.upto orbitKeplerSpec)

/-- 'orrerylaw11.OrbitEllipse', WHERE WHAT IT READS IS OF BULK AT MOST 1048576: true; the input reads as it did. -/
def orbitEllipseUptoRow : OpenClaim := { program := "ytkpdnhbifokhlaa", sum := "35a2fe21bd177abee1151523a400f3adbaeb8c609411d0266c6ac9a3787f16ae", func := "orrery/orrerylaw11.OrbitEllipse", spec := "orbitEllipse", inPlace := ["math.Float64bits", "math.Float64frombits", "math.RoundToEven", "math.sqrt"], unfollowed := true, recurses := true, apart := false, narrowed := true }
def OrbitEllipseUptoSaid : Prop := orbitEllipseUptoRow.holds Try.pinned (OpenSpec.upto orbitEllipseSpec)

/-- 'orrerylaw11.OrbitRounds', WHERE WHAT IT READS IS OF BULK AT MOST 1048576: true; the input reads as it did. -/
def orbitRoundsUptoRow : OpenClaim := { program := "ytkpdnhbifokhlaa", sum := "35a2fe21bd177abee1151523a400f3adbaeb8c609411d0266c6ac9a3787f16ae", func := "orrery/orrerylaw11.OrbitRounds", spec := "orbitRounds", inPlace := ["math.Float64bits", "math.Float64frombits", "math.RoundToEven", "math.archFloor", "math.archTrunc", "math.sqrt"], unfollowed := true, recurses := true, apart := false, narrowed := true }
def OrbitRoundsUptoSaid : Prop := orbitRoundsUptoRow.holds Try.pinned (OpenSpec.upto orbitRoundsSpec)

/-- 'orrerylaw11.OrbitEdges', WHERE WHAT IT READS IS OF BULK AT MOST 1048576: true; the input reads as it did. -/
def orbitEdgesUptoRow : OpenClaim := { program := "ytkpdnhbifokhlaa", sum := "35a2fe21bd177abee1151523a400f3adbaeb8c609411d0266c6ac9a3787f16ae", func := "orrery/orrerylaw11.OrbitEdges", spec := "orbitEdges", inPlace := ["math.Float64bits", "math.Float64frombits", "math.RoundToEven"], unfollowed := true, recurses := true, apart := false, narrowed := true }
def OrbitEdgesUptoSaid : Prop := orbitEdgesUptoRow.holds Try.pinned (OpenSpec.upto orbitEdgesSpec)

end Rows
end Go.Proofs.Ytkpdnhbifokhlaa
